package world

import (
	"slices"

	"catacomb/api"
	"catacomb/fs"
	"catacomb/hold"
	"catacomb/once"
)

// user is a world's copy in which a user is changed.
func user(w api.World, who int, change func(*api.User)) api.World {
	w.Users = with(w.Users, who, func(u api.User) api.User {
		change(&u)
		return u
	})
	return w
}

func begun(w api.World, o api.Op) api.World {
	w.Hist = more(w.Hist, api.Event{Kind: api.Begin, Client: o.Client, Op: o})
	return w
}

func ended(w api.World, who int, a api.Ans) api.World {
	w.Hist = more(w.Hist, api.Event{Kind: api.End, Client: who, Ans: a})
	return w
}

// did is a world whose file system an operation was done on, in one turn with its beginning and its end.
func did(w api.World, f api.FS, o api.Op, a api.Ans) api.World {
	w.F = f
	w.Did = more(w.Did, o)
	return ended(begun(w, o), o.Client, a)
}

func ask(w api.World, t api.Turn) (api.World, bool) {
	u := w.Users[t.User]
	if u.Dead || u.Wait || t.Op.Kind < api.Look || t.Op.Kind > api.Drop || u.Seq >= api.MaxTime {
		return w, false
	}
	o := t.Op
	o.Client = t.User
	w = user(w, t.User, func(u *api.User) { u.Seq, u.Wait, u.Op = u.Seq+1, true, o })
	return begun(w, o), true
}

// barred: does another user's lease keep a user's request from being served?
func barred(w api.World, who int) bool {
	o := w.Users[who].Op
	if o.Kind != api.Read && o.Kind != api.Write && o.Kind != api.Cut {
		return false
	}
	ino, err := hold.Ino(w.F.Holds, who, o.Handle)
	return err == api.OK && slices.ContainsFunc(w.Leases, func(l api.Lease) bool {
		return l.Ino == ino && l.Client != who && (o.Kind != api.Read || l.Kind == api.Own)
	})
}

// session is that of a user's last request, and whether there is one.
func session(w api.World, who int) (api.Sess, bool) {
	i := slices.IndexFunc(w.Sess, func(s api.Sess) bool { return s.Client == who && s.Seq == w.Users[who].Seq })
	if i < 0 {
		return api.Sess{}, false
	}
	return w.Sess[i], true
}

// served is a world in which a user's request is done, if it was not.
func served(w api.World, who int) api.World {
	u := w.Users[who]
	if _, done := session(w, who); !done {
		w.Did = more(w.Did, u.Op)
	}
	w.F, w.Sess, _ = once.Do(w.F, w.Sess, who, u.Seq, u.Op)
	return w
}

// told is a world in which a user has its answer.
func told(w api.World, who int) api.World {
	s, _ := session(w, who)
	return ended(user(w, who, func(u *api.User) { u.Wait = false }), who, s.Ans)
}

func serve(w api.World, t api.Turn) (api.World, bool) {
	if !w.Users[t.User].Wait || barred(w, t.User) {
		return w, false
	}
	return served(w, t.User), true
}

func tell(w api.World, t api.Turn) (api.World, bool) {
	u := w.Users[t.User]
	if _, done := session(w, t.User); u.Dead || !u.Wait || !done {
		return w, false
	}
	return told(w, t.User), true
}

func die(w api.World, t api.Turn) (api.World, bool) {
	if w.Users[t.User].Dead {
		return w, false
	}
	return user(w, t.User, func(u *api.User) { u.Dead, u.Mine, u.Dirty = true, nil, nil }), true
}

func fence(w api.World, t api.Turn) (api.World, bool) {
	u := w.Users[t.User]
	_, done := session(w, t.User)
	if !u.Dead || u.Wait && !done && barred(w, t.User) {
		return w, false
	}
	if slices.ContainsFunc(w.Leases, func(l api.Lease) bool { return l.Client == t.User }) {
		return w, false
	}
	if u.Wait {
		w = told(served(w, t.User), t.User)
	}
	o := api.Op{Kind: api.Crash, Client: t.User}
	f, a := fs.Do(w.F, o)
	return did(user(w, t.User, func(u *api.User) { u.Dead = false }), f, o, a), true
}
