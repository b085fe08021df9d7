package sure

import (
	"math/bits"

	"runrig/api"
)

// walk goes through a body once, in the order of the text, with the set of the locals that are definitely assigned. The
// numbers of its locals have this many bits at most.
type walk struct{ width int }

func checkBody(b api.Body, params int) api.Fault {
	w := walk{width: bits.Len(uint(len(b.Vars)))}
	var assigned set
	for param := range params {
		assigned = assigned.with(param, w.width)
	}
	_, fault := w.block(b.Code, assigned)
	return fault
}

// block examines statements, and returns what is assigned behind them.
func (w walk) block(list []api.Stmt, assigned set) (set, api.Fault) {
	for i := range list {
		var fault api.Fault
		if assigned, fault = w.statement(&list[i], assigned); fault.E != api.OK {
			return set{}, fault
		}
	}
	return assigned, api.Fault{}
}

func (w walk) statement(s *api.Stmt, assigned set) (set, api.Fault) {
	if fault := w.expressions(s.Es, assigned); fault.E != api.OK {
		return set{}, fault
	}
	switch s.Kind {
	case api.SVar:
		// Behind an SRet even a local that is not yet declared is assigned.
		return assigned.without(s.Ref, w.width), api.Fault{}
	case api.SLet, api.SSet:
		return w.assign(s.Ref, assigned), api.Fault{}
	case api.SIf:
		return w.branches(s, assigned)
	case api.SWhile:
		// The body may not run at all: what it assigns counts only within it.
		_, fault := w.block(s.Body, assigned)
		return assigned, fault
	case api.SRet:
		return everything(), api.Fault{}
	}
	return assigned, api.Fault{}
}

func (w walk) assign(ref int, assigned set) set {
	if isGlobal(ref) {
		return assigned
	}
	return assigned.with(ref, w.width)
}

func (w walk) branches(s *api.Stmt, assigned set) (set, api.Fault) {
	afterBody, fault := w.block(s.Body, assigned)
	if fault.E != api.OK {
		return set{}, fault
	}
	afterElse, fault := w.block(s.Else, assigned)
	return meet(afterBody, afterElse, assigned), fault
}

// expressions looks for the first local that is asked without being assigned.
func (w walk) expressions(list []api.Expr, assigned set) api.Fault {
	for i := range list {
		e := &list[i]
		if e.Kind == api.EVar && !isGlobal(e.Ref) && !assigned.has(e.Ref, w.width) {
			return api.Fault{E: api.ErrType, At: e.At}
		}
		if fault := w.expressions(e.Kids, assigned); fault.E != api.OK {
			return fault
		}
	}
	return api.Fault{}
}

func isGlobal(ref int) bool { return ref < 0 }
