package world

import (
	"slices"

	"catacomb/api"
	"catacomb/fs"
	"catacomb/lease"
	"catacomb/write"
)

const (
	maxStep = 1000    // time of one turn
	maxReal = 1 << 30 // all time
)

func time(w api.World, t api.Turn) (api.World, bool) {
	if t.N < 1 || t.N > maxStep || w.Real+t.N > maxReal {
		return w, false
	}
	w.Real += t.N
	w.Leases = lease.Over(w.Leases, Clock(w, server))
	return w, true
}

// without are the leases of which is is not true, in order.
func without(l []api.Lease, is func(api.Lease) bool) []api.Lease {
	return slices.DeleteFunc(slices.Clone(l), is)
}

func obtain(w api.World, t api.Turn) (api.World, bool) {
	q := api.Lease{Client: t.User, Ino: t.N, Kind: t.M, Span: api.Span{From: t.From, To: t.To}}
	l, ok, _ := lease.Ask(w.Leases, Clock(w, server), q, t.Many)
	if w.Users[t.User].Dead || !ok {
		return w, false
	}
	q.Until = Clock(w, t.User) + t.Many
	w.Leases = l
	return user(w, t.User, func(u *api.User) {
		u.Mine = append(without(u.Mine, func(x api.Lease) bool { return x.Ino == q.Ino && x.Kind == q.Kind && x.Span == q.Span }), q)
	}), true
}

func give(w api.World, t api.Turn) (api.World, bool) {
	u := w.Users[t.User]
	if u.Dead || slices.ContainsFunc(u.Dirty, func(d api.Dirty) bool { return d.Ino == t.N }) {
		return w, false
	}
	w.Leases = lease.Back(w.Leases, t.User, t.N)
	return user(w, t.User, func(u *api.User) {
		u.Mine = without(u.Mine, func(x api.Lease) bool { return x.Ino == t.N })
	}), true
}

func put(w api.World, t api.Turn) (api.World, bool) {
	u := w.Users[t.User]
	if u.Dead || len(t.Data) == 0 || t.From < 0 || t.From > api.MaxFile-len(t.Data) {
		return w, false
	}
	now, end := Clock(w, t.User), t.From+len(t.Data)
	mayWrite := func(l api.Lease) bool {
		return l.Ino == t.N && l.Kind == api.Own && l.Span.From <= t.From && end <= l.Span.To && l.Until > now
	}
	if !slices.ContainsFunc(u.Mine, mayWrite) {
		return w, false
	}
	return user(w, t.User, func(u *api.User) { u.Dirty = write.Put(u.Dirty, t.N, t.From, t.Data) }), true
}

func flush(w api.World, t api.Turn) (api.World, bool) {
	u := w.Users[t.User]
	d, left, some := write.Next(u.Dirty)
	if u.Dead || u.Wait || !some {
		return w, false
	}
	if !lease.Has(w.Leases, t.User, d.Ino, api.Own, api.Span{From: d.From, To: d.From + len(d.Data)}) {
		return w, false
	}
	at := slices.IndexFunc(w.F.Holds, func(h api.Hold) bool { return h.Client == t.User && h.Ino == d.Ino }) // holds rise: the first one is the least
	if at < 0 {
		return w, false
	}
	o := api.Op{Kind: api.Write, Client: t.User, N: d.From, Handle: w.F.Holds[at].Handle, Data: d.Data}
	f, a := fs.Do(w.F, o)
	if a.Err != api.OK {
		return w, false
	}
	return did(user(w, t.User, func(u *api.User) { u.Dirty = left }), f, o, a), true
}
