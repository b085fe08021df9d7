package sem

import (
	"runrig/api"
	"runrig/num"
)

// evaluate begins an expression. Its Kids come ahead of what it makes of their values.
func (r *run) evaluate(e *api.Expr) {
	if !r.takeStep() {
		return
	}
	r.push(task{kind: toApply, expr: e})
	r.evaluateAll(e.Kids)
}

// evaluateAll has expressions evaluated in their order: the first one is to be the next task, and so it is pushed last.
func (r *run) evaluateAll(list []api.Expr) {
	for i := len(list) - 1; i >= 0; i-- {
		r.push(task{kind: toEvaluate, expr: &list[i]})
	}
}

// apply takes the values of the Kids, and gives that of the expression.
func (r *run) apply(e *api.Expr) {
	if e.Kind == api.ECall {
		r.call(e.Ref)
		return
	}
	value, trap := r.value(e)
	if trap != noTrap {
		r.trap(trap)
		return
	}
	r.give(value)
}

// value is the value of an expression that is no call, or a trap.
func (r *run) value(e *api.Expr) (int, int) {
	switch e.Kind {
	case api.EInt, api.EBool:
		return e.N, noTrap
	case api.ENull:
		return null, noTrap
	case api.EVar:
		return *r.variable(e.Ref), noTrap
	case api.EField:
		return r.heap.Load(r.take(), e.Ref)
	case api.EItem:
		index := r.take()
		return r.heap.Load(r.take(), index)
	case api.ENew:
		return r.heap.Rec(len(r.program.Heads.Recs[e.Type.Rec].Fields)), noTrap
	case api.EMake:
		return r.heap.Arr(r.take())
	case api.ELen:
		return r.heap.Len(r.take())
	case api.ERead:
		return r.read()
	case api.ENeg, api.ENot:
		return num.Un(e.Kind, r.take()), noTrap
	}
	second := r.take()
	return num.Bin(e.Kind, r.take(), second)
}

// read is the next number of the input.
func (r *run) read() (int, int) {
	if len(r.in) == 0 {
		return 0, api.TrapRead
	}
	value := r.in[0]
	r.in = r.in[1:]
	return value, noTrap
}
