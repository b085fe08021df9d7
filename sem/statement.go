package sem

import "runrig/api"

// execute begins the first of some statements, and has the others come behind it.
func (r *run) execute(list []api.Stmt) {
	if len(list) == 0 {
		return
	}
	r.push(task{kind: toExecute, list: list[1:]})
	r.begin(&list[0])
}

// begin begins a statement. Its expressions come ahead of what it does with their values.
func (r *run) begin(s *api.Stmt) {
	if s.Kind == api.SVar || !r.takeStep() {
		return
	}
	r.push(task{kind: toComplete, stmt: s})
	if s.Kind == api.SPut {
		// What stands there now is not asked: only where it stands.
		r.evaluateAll(s.Es[1:])
		r.evaluateAll(s.Es[0].Kids)
		return
	}
	r.evaluateAll(s.Es)
}

// complete takes the values of the expressions of a statement, and does what it does with them.
func (r *run) complete(s *api.Stmt) {
	switch s.Kind {
	case api.SLet, api.SSet:
		*r.variable(s.Ref) = r.take()
	case api.SPut:
		r.put(&s.Es[0])
	case api.SIf:
		r.choose(s)
	case api.SWhile:
		r.repeat(s)
	case api.SRet:
		r.leave(r.result(s))
	case api.SPrint:
		r.beh.Out = append(r.beh.Out, r.take())
	case api.SDo:
		r.take()
	}
}

// put sets a field or an item.
func (r *run) put(place *api.Expr) {
	value := r.take()
	cell := place.Ref
	if place.Kind == api.EItem {
		cell = r.take()
	}
	if trap := r.heap.Put(r.take(), cell, value); trap != noTrap {
		r.trap(trap)
	}
}

func (r *run) choose(s *api.Stmt) {
	branch := s.Else
	if r.take() != 0 {
		branch = s.Body
	}
	r.push(task{kind: toExecute, list: branch})
}

// repeat has the loop begin again behind its body, if its body is to be executed at all.
func (r *run) repeat(s *api.Stmt) {
	if r.take() == 0 {
		return
	}
	r.push(task{kind: toBegin, stmt: s})
	r.push(task{kind: toExecute, list: s.Body})
}

// result is the value that an SRet hands on: 0 if it has none.
func (r *run) result(s *api.Stmt) int {
	if len(s.Es) == 0 {
		return 0
	}
	return r.take()
}
