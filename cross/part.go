package cross

import (
	"slices"

	"catacomb/api"
)

// part is one at work, what it sends, and the deed that it does now.
type part struct {
	api.Part
	out  []api.Msg
	does int
}

// NewPart is a side that does deeds, without any.
func NewPart(id int) api.Part { return api.Part{Id: id} }

// place is where a deed stands that it is ready for; -1, if it is not.
func (p *part) place(id int) int {
	return slices.IndexFunc(p.Ready, func(r api.Ready) bool { return r.Id == id })
}

// locked: does a path clash with one that it is ready for?
func (p *part) locked(path string) bool {
	return slices.ContainsFunc(p.Ready, func(r api.Ready) bool { return clash(path, r.Path) })
}

func (p *part) answer(m api.Msg, kind int) {
	p.out = append(p.out, message(p.Id, m.From, kind, m.Nums[0], ""))
}

func (p *part) prepare(m api.Msg) {
	id, path := m.Nums[0], string(m.Data)
	switch {
	case slices.Contains(p.Did, id):
		p.answer(m, kindDone)
	case p.place(id) >= 0:
		p.answer(m, kindYes)
	case !isPath(path) || p.locked(path):
		p.answer(m, kindNo)
	default:
		p.Ready = slices.Concat(p.Ready, []api.Ready{{Id: id, Path: path}})
		p.answer(m, kindYes)
	}
}

func (p *part) do(m api.Msg) {
	id := m.Nums[0]
	if p.place(id) >= 0 {
		p.forget(id)
		p.Did = slices.Concat(p.Did, []int{id})
		p.does = id
		p.answer(m, kindDone)
	} else if slices.Contains(p.Did, id) {
		p.answer(m, kindDone)
	}
}

// forget has it not be ready for a deed any more.
func (p *part) forget(id int) {
	p.Ready = slices.DeleteFunc(slices.Clone(p.Ready), func(r api.Ready) bool { return r.Id == id })
}

// Hear is a part that hears a message, and the deed that it does now.
func Hear(p api.Part, m api.Msg) (api.Part, []api.Msg, int) {
	if m.To != p.Id || len(m.Nums) != 1 {
		return p, nil, 0
	}
	w := &part{Part: p}
	switch m.Kind {
	case kindPrepare:
		w.prepare(m)
	case kindDo:
		w.do(m)
	case kindNot:
		w.forget(m.Nums[0])
	}
	return w.Part, w.out, w.does
}

// Ask are the questions of all that a part is ready for.
func Ask(p api.Part) []api.Msg {
	var out []api.Msg
	for _, r := range p.Ready {
		boss := (r.Id%api.MaxGroups + api.MaxGroups) % api.MaxGroups
		out = append(out, message(p.Id, boss, kindAsk, r.Id, ""))
	}
	return out
}

// Locked: is a path at, above or below one that is locked?
func Locked(p api.Part, path string) bool {
	w := &part{Part: p}
	return w.locked(path)
}
