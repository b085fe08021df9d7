package show

import (
	"strconv"

	"runrig/api"
)

const (
	weakest   = 1
	strongest = 7
)

// level is how strongly the expressions of a kind hold together: beside an operator of a higher level than their own they
// would be torn apart without parentheses.
func level(kind int) int {
	switch kind {
	case api.EOr:
		return weakest
	case api.EAnd:
		return 2
	case api.ELess, api.ELeq, api.ESame, api.EDiff:
		return 3
	case api.EAdd, api.ESub:
		return 4
	case api.EMul, api.EDiv, api.ERem:
		return 5
	case api.ENeg, api.ENot:
		return 6
	}
	return strongest
}

// signs are the operators, each at the kind of its expressions.
var signs = [...]string{
	api.ENeg: "-", api.ENot: "!",
	api.EAdd: "+", api.ESub: "-", api.EMul: "*", api.EDiv: "/", api.ERem: "%",
	api.ELess: "<", api.ELeq: "<=", api.ESame: "==", api.EDiff: "!=",
	api.EAnd: "&&", api.EOr: "||",
}

// expression adds an expression; nothing for a kind that does not exist. It takes a place in the list of Kids, because
// copies of the expressions would fill the stack where they are nested deeply.
func (w *writer) expression(e *api.Expr) {
	switch e.Kind {
	case api.EInt:
		w.add(strconv.Itoa(e.N))
	case api.EBool:
		w.add(strconv.FormatBool(e.N != 0))
	case api.ENull:
		w.add("null ")
		w.typeOf(e.Of)
	case api.EVar:
		w.add(e.Name)
	case api.EField:
		w.operand(e, 0, strongest)
		w.add(".", e.Name)
	case api.EItem:
		w.operand(e, 0, strongest)
		w.add("[")
		w.operand(e, 1, weakest)
		w.add("]")
	case api.ECall:
		w.call(e)
	case api.ENew:
		w.add("new ")
		w.typeOf(e.Of)
	case api.EMake:
		w.add("new [")
		w.typeOf(e.Of)
		w.add("](")
		w.operand(e, 0, weakest)
		w.add(")")
	case api.ELen:
		w.add("len(")
		w.operand(e, 0, weakest)
		w.add(")")
	case api.ERead:
		w.add("read()")
	case api.ENeg, api.ENot:
		w.prefixed(e)
	case api.EAdd, api.ESub, api.EMul, api.EDiv, api.ERem, api.ELess, api.ELeq, api.ESame, api.EDiff, api.EAnd, api.EOr:
		w.binary(e)
	}
}

func (w *writer) call(e *api.Expr) {
	w.add(e.Name, "(")
	for i := range e.Kids {
		if i > 0 {
			w.add(", ")
		}
		w.operand(e, i, weakest)
	}
	w.add(")")
}

func (w *writer) prefixed(e *api.Expr) {
	w.add(signs[e.Kind])
	w.operand(e, 0, level(e.Kind))
}

// binary adds a binary operation. Operators of one level associate to the left, so only the left operand may be of the
// same level without parentheses.
func (w *writer) binary(e *api.Expr) {
	w.operand(e, 0, level(e.Kind))
	w.add(" ", signs[e.Kind], " ")
	w.operand(e, 1, level(e.Kind)+1)
}

// operand adds one of the Kids, in parentheses if its level is lower than the least that may stand there without; nothing
// for one that is missing.
func (w *writer) operand(e *api.Expr, n, least int) {
	if n >= len(e.Kids) {
		return
	}
	kid := &e.Kids[n]
	if level(kid.Kind) >= least {
		w.expression(kid)
		return
	}
	w.add("(")
	w.expression(kid)
	w.add(")")
}
