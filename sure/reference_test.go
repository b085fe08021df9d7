package sure_test

import (
	"slices"

	"runrig/api"
)

// This file is chapter 9 once more, in another way: it follows each path through a body on its own, with the locals that lack
// a value on this path, and marks each use of one of them. There is no set that any two paths have in common.

// use is an EVar of a local.
type use struct {
	local   string
	at      int
	missing bool
}

// move is a statement with the uses in its Es, and the local to which it does something, if it is one's.
type move struct {
	kind       int
	local      string
	uses       []*use
	body, elze []move
}

// reference is a function: its locals as they become visible, and all uses of them, in the order of the text.
type reference struct {
	visible []string
	uses    []*use
}

func (r *reference) usesIn(list []api.Expr) []*use {
	first := len(r.uses)
	for _, e := range list {
		if e.Kind == api.EVar && slices.Contains(r.visible, e.Name) {
			r.uses = append(r.uses, &use{local: e.Name, at: e.At})
		}
		r.usesIn(e.Kids)
	}
	return r.uses[first:]
}

func (r *reference) moves(list []api.Stmt) []move {
	var moves []move
	for _, s := range list {
		m := move{kind: s.Kind, uses: r.usesIn(s.Es)}
		if s.Kind == api.SVar || s.Kind == api.SLet {
			r.visible = append(r.visible, s.Name)
		}
		if slices.Contains(r.visible, s.Name) {
			m.local = s.Name
		}
		if s.Kind == api.SIf || s.Kind == api.SWhile {
			m.body = r.moves(s.Body)
		}
		if s.Kind == api.SIf {
			m.elze = r.moves(s.Else)
		}
		moves = append(moves, m)
	}
	return moves
}

// along follows all paths through moves, and goes on at the end of each of them.
func along(list []move, lacking []string, then func(lacking []string)) {
	if len(list) == 0 {
		then(lacking)
		return
	}
	m, rest := list[0], list[1:]
	for _, u := range m.uses {
		u.missing = u.missing || slices.Contains(lacking, u.local)
	}
	others := slices.DeleteFunc(slices.Clone(lacking), func(local string) bool { return local == m.local })
	switch m.kind {
	case api.SVar:
		along(rest, append(others, m.local), then)
	case api.SLet, api.SSet:
		along(rest, others, then)
	case api.SRet:
		along(rest, nil, then)
	case api.SIf:
		onwards := func(lacking []string) { along(rest, lacking, then) }
		along(m.body, lacking, onwards)
		along(m.elze, lacking, onwards)
	case api.SWhile:
		// What comes behind the loop is as if its body did not run, also where no run comes to it.
		along(m.body, lacking, func(lacking []string) {})
		along(rest, lacking, then)
	default:
		along(rest, lacking, then)
	}
}

// expected is what Check has to tell of a program that the type checker lets pass.
func expected(p api.Prog) api.Fault {
	for _, f := range p.Funcs {
		var r reference
		for _, param := range f.Params {
			r.visible = append(r.visible, param.Name)
		}
		moves := r.moves(f.Body)
		along(moves, r.visible[len(f.Params):], func(lacking []string) {})
		if i := slices.IndexFunc(r.uses, func(u *use) bool { return u.missing }); i >= 0 {
			return api.Fault{E: api.ErrType, At: r.uses[i].at}
		}
	}
	return api.Fault{}
}
