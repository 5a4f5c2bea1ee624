// Package words writes things as lines of words, and reads them: a first word, and behind it fields, each a name, `=` and a value.
package words

import (
	"slices"
	"strconv"
	"strings"
)

const digits = "0123456789abcdef"

// isPlain: does a byte stand for itself in a text that is escaped?
func isPlain(c byte) bool {
	switch {
	case c >= 'a' && c <= 'z', c >= 'A' && c <= 'Z', c >= '0' && c <= '9':
		return true
	}
	return c == '/' || c == '.' || c == '_' || c == '-'
}

// Escape is a text escaped.
func Escape(s string) string {
	var b strings.Builder
	for i := range len(s) {
		if c := s[i]; isPlain(c) {
			b.WriteByte(c)
		} else {
			b.WriteByte('%')
			b.WriteByte(digits[c>>4])
			b.WriteByte(digits[c&15])
		}
	}
	return b.String()
}

// Unescape is the text that is escaped so; false, if there is none.
func Unescape(s string) (string, bool) {
	var b strings.Builder
	for i := 0; i < len(s); i++ {
		c := s[i]
		if c == '%' {
			if i+2 >= len(s) {
				return "", false
			}
			high, low := strings.IndexByte(digits, s[i+1]), strings.IndexByte(digits, s[i+2])
			if high < 0 || low < 0 {
				return "", false
			}
			c = byte(high<<4 | low)
			i += 2
		}
		b.WriteByte(c)
	}
	out := b.String()
	return out, Escape(out) == s
}

// Number is the number of a text that tells it in decimal, without anything needless; false, if there is none.
func Number(s string) (int, bool) {
	n, err := strconv.Atoi(s)
	if err != nil || strconv.Itoa(n) != s {
		return 0, false
	}
	return n, true
}

// Field is one of a line, and whether it is told.
type Field struct {
	Name  string
	Value string
	Told  bool
}

// Int is the field of a number, which is told unless it is 0.
func Int(name string, n int) Field { return Field{name, strconv.Itoa(n), n != 0} }

// Text is the field of a text, escaped, which is told unless it is empty.
func Text(name string, s string) Field { return Field{name, Escape(s), s != ""} }

// Line is a word, and behind it all fields that are told.
func Line(word string, fields ...Field) string {
	var b strings.Builder
	b.WriteString(word)
	for _, f := range fields {
		if f.Told {
			b.WriteString(" " + f.Name + "=" + f.Value)
		}
	}
	return b.String()
}

// Kind is a kind's number, and its word.
type Kind struct {
	Number int
	Word   string
}

// number and word tell the kind that has them.
type number int

func (n number) of(k Kind) bool { return k.Number == int(n) }

type word string

func (w word) of(k Kind) bool { return k.Word == string(w) }

// WordOf is the word of a kind; of one that is not in the table another word, and its number.
func WordOf(table []Kind, n int, other string) string {
	if i := slices.IndexFunc(table, number(n).of); i >= 0 {
		return table[i].Word
	}
	return other + strconv.Itoa(n)
}

// KindOf is the kind of a word; false, if there is none.
func KindOf(table []Kind, w string, other string) (int, bool) {
	if i := slices.IndexFunc(table, word(w).of); i >= 0 {
		return table[i].Number, true
	}
	tail, ok := strings.CutPrefix(w, other)
	if !ok {
		return 0, false
	}
	return Number(tail)
}

// Reader reads a line's fields, by their names; what goes wrong stays.
type Reader struct {
	First  string // the first word
	values map[string]string
	wrong  bool
}

// Read begins to read a line.
func Read(line string) *Reader {
	parts := strings.Split(line, " ")
	r := &Reader{First: parts[0], values: map[string]string{}}
	for _, part := range parts[1:] {
		name, value, ok := strings.Cut(part, "=")
		if !ok {
			r.wrong = true
		}
		r.values[name] = value
	}
	return r
}

// Wrong: did anything go wrong?
func (r *Reader) Wrong() bool { return r.wrong }

// Has is a field's value as it stands there, and whether there is one.
func (r *Reader) Has(name string) (string, bool) {
	v, ok := r.values[name]
	return v, ok
}

// Int is a field's number; 0, if there is no such field.
func (r *Reader) Int(name string) int {
	v, ok := r.values[name]
	if !ok {
		return 0
	}
	n, ok := Number(v)
	if !ok {
		r.wrong = true
	}
	return n
}

// Text is a field's text; empty, if there is no such field.
func (r *Reader) Text(name string) string { return r.Plain(r.values[name]) }

// Plain is the text of a value that is escaped.
func (r *Reader) Plain(v string) string {
	s, ok := Unescape(v)
	if !ok {
		r.wrong = true
	}
	return s
}
