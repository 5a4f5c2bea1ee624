// Package pack is layer 1: numbers, texts, operations and answers as bytes, and back.
package pack

import (
	"slices"

	"catacomb/api"
)

// longest is how many bytes a number has at most.
const longest = 10

// Int is a number's bytes: the sign goes to the lowest bit, so that small numbers of either sign are short.
func Int(n int) []byte {
	u := uint64(n) << 1
	if n < 0 {
		u = ^u
	}
	var b []byte
	for u >= 128 {
		b = append(b, byte(u)|128)
		u >>= 7
	}
	return append(b, byte(u))
}

// Str is a text's bytes.
func Str(s string) []byte { return append(Int(len(s)), s...) }

// Ints are many numbers' bytes.
func Ints(l []int) []byte {
	b := Int(len(l))
	for _, n := range l {
		b = append(b, Int(n)...)
	}
	return b
}

// ReadInt takes a number off the front.
func ReadInt(b []byte) (int, []byte, api.Errno) {
	var u uint64
	for i, c := range b[:min(len(b), longest)] {
		u |= uint64(c&127) << (7 * i)
		if c >= 128 {
			continue
		}
		if i > 0 && c == 0 || i == longest-1 && c > 1 {
			return 0, nil, api.ErrForm
		}
		return signed(u), b[i+1:], api.OK
	}
	if len(b) < longest {
		return 0, nil, api.ErrEnd
	}
	return 0, nil, api.ErrForm
}

// signed has the sign back from the lowest bit.
func signed(u uint64) int {
	if u&1 == 1 {
		return int(^(u >> 1))
	}
	return int(u >> 1)
}

// ReadStr takes a text off the front.
func ReadStr(b []byte) (string, []byte, api.Errno) {
	n, rest, err := readCount(b)
	if err != api.OK {
		return "", nil, err
	}
	return string(rest[:n]), rest[n:], api.OK
}

// ReadInts takes many numbers off the front.
func ReadInts(b []byte) ([]int, []byte, api.Errno) {
	n, rest, err := readCount(b)
	if err != api.OK {
		return nil, nil, err
	}
	l := make([]int, n)
	for i := range l {
		if l[i], rest, err = ReadInt(rest); err != api.OK {
			return nil, nil, err
		}
	}
	return l, rest, api.OK
}

// readCount takes a number off the front that says how much follows: each thing has a byte at least, so there are no more things than bytes.
func readCount(b []byte) (int, []byte, api.Errno) {
	n, rest, err := ReadInt(b)
	switch {
	case err != api.OK:
		return 0, nil, err
	case n < 0:
		return 0, nil, api.ErrForm
	case n > len(rest):
		return 0, nil, api.ErrEnd
	}
	return n, rest, api.OK
}

// together are parts, one behind the other.
func together(parts ...[]byte) []byte { return slices.Concat(parts...) }

// left is what is left to read, and the first error of reading, which stays.
type left struct {
	bytes []byte
	err   api.Errno
}

// take reads one thing of what is left, unless something went wrong ahead.
func take[T any](l *left, read func([]byte) (T, []byte, api.Errno)) T {
	var none T
	if l.err != api.OK {
		return none
	}
	v, rest, err := read(l.bytes)
	if err != api.OK {
		l.err = err
		return none
	}
	l.bytes = rest
	return v
}

// end tells the first error; bytes that are left behind all are one, too.
func (l *left) end() api.Errno {
	if l.err == api.OK && len(l.bytes) > 0 {
		return api.ErrForm
	}
	return l.err
}

// fields reads the fields of a thing, one behind the other.
type fields struct {
	left
}

func open(b []byte) *fields { return &fields{left{bytes: b}} }

func (f *fields) number() int { return take(&f.left, ReadInt) }

func (f *fields) text() string { return take(&f.left, ReadStr) }

func (f *fields) data() []byte { return []byte(f.text()) }

func (f *fields) texts() []string {
	n := take(&f.left, readCount)
	var l []string
	for i := 0; i < n && f.err == api.OK; i++ {
		l = append(l, f.text())
	}
	return l
}

// Op is an operation's bytes.
func Op(o api.Op) []byte {
	return together(Int(o.Kind), Int(o.Client), Str(o.Path), Str(o.To), Int(o.N), Int(o.M), Int(o.Handle), Str(string(o.Data)))
}

// ReadOp is the operation of bytes.
func ReadOp(b []byte) (api.Op, api.Errno) {
	f := open(b)
	o := api.Op{Kind: f.number(), Client: f.number(), Path: f.text(), To: f.text(), N: f.number(), M: f.number(), Handle: f.number(), Data: f.data()}
	if err := f.end(); err != api.OK {
		return api.Op{}, err
	}
	return o, api.OK
}

// Ans is an answer's bytes.
func Ans(a api.Ans) []byte {
	names := Int(len(a.Names))
	for _, s := range a.Names {
		names = append(names, Str(s)...)
	}
	return together(Int(int(a.Err)), Int(a.Ino), Int(a.Kind), Int(a.N), Int(a.M), names, Str(string(a.Data)))
}

// ReadAns is the answer of bytes.
func ReadAns(b []byte) (api.Ans, api.Errno) {
	f := open(b)
	a := api.Ans{Err: api.Errno(f.number()), Ino: f.number(), Kind: f.number(), N: f.number(), M: f.number(), Names: f.texts(), Data: f.data()}
	if err := f.end(); err != api.OK {
		return api.Ans{}, err
	}
	return a, api.OK
}
