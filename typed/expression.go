package typed

import (
	"slices"
	"strings"

	"runrig/api"
	"runrig/heads"
)

var (
	none    = api.Type{}
	integer = api.Type{Base: api.TInt}
	boolean = api.Type{Base: api.TBool}
)

const anyCount = -1

// kidCounts are how many Kids an expression has, at its kind; those of an ECall are a matter of its function.
var kidCounts = [...]int{
	api.EField: 1, api.EItem: 2, api.ECall: anyCount, api.EMake: 1, api.ELen: 1, api.ENeg: 1, api.ENot: 1,
	api.EAdd: 2, api.ESub: 2, api.EMul: 2, api.EDiv: 2, api.ERem: 2,
	api.ELess: 2, api.ELeq: 2, api.ESame: 2, api.EDiff: 2, api.EAnd: 2, api.EOr: 2,
}

func hasExprForm(e *api.Expr) bool {
	if e.Kind < api.EInt || e.Kind >= len(kidCounts) {
		return false
	}
	if count := kidCounts[e.Kind]; count != anyCount && count != len(e.Kids) {
		return false
	}
	return e.Kind != api.EBool || e.N == 0 || e.N == 1
}

// values checks expressions that must have a value each.
func (s *scope) values(list []api.Expr) ([]api.Expr, api.Fault) {
	var checked []api.Expr
	for i := range list {
		checked = append(checked, api.Expr{})
		fault := s.expression(&list[i], &checked[i])
		if fault.E == api.OK && checked[i].Type == none {
			fault = refuse(list[i].At)
		}
		if fault.E != api.OK {
			return nil, fault
		}
	}
	return checked, api.Fault{}
}

// expression checks an expression, which may be without a value. The result is made at its place in the new list, because
// copies of it would fill the stack where expressions are nested deeply.
func (s *scope) expression(e, checked *api.Expr) api.Fault {
	if !hasExprForm(e) {
		return refuse(e.At)
	}
	kids, fault := s.values(e.Kids)
	if fault.E != api.OK {
		return fault
	}
	takeExpr(e, checked)
	checked.Kids = kids
	if !s.exprFits(checked) {
		return refuse(e.At)
	}
	return api.Fault{}
}

// takeExpr takes over what the kind of an expression uses, but for its Kids.
func takeExpr(e, checked *api.Expr) {
	*checked = api.Expr{Kind: e.Kind, At: e.At}
	switch e.Kind {
	case api.EInt, api.EBool:
		checked.N = e.N
	case api.ENull, api.ENew, api.EMake:
		checked.Of = copyOf(e.Of)
	case api.EVar, api.EField, api.ECall:
		checked.Name = strings.Clone(e.Name)
	}
}

func copyOf(o api.Of) api.Of { return api.Of{Name: strings.Clone(o.Name), Dims: o.Dims} }

// exprFits tells whether the conditions of an expression hold whose Kids are checked, and sets its Type and its Ref.
func (s *scope) exprFits(e *api.Expr) bool {
	ok := true
	switch e.Kind {
	case api.EInt, api.ERead:
		e.Type = integer
	case api.EBool:
		e.Type = boolean
	case api.ENull:
		e.Type, ok = s.typeOf(e.Of)
		ok = ok && heads.Ref(e.Type)
	case api.EVar:
		e.Ref, e.Type, ok = s.variable(e.Name)
	case api.EField:
		ok = s.fieldFits(e)
	case api.EItem:
		ok = itemFits(e)
	case api.ECall:
		ok = s.callFits(e)
	case api.ENew:
		e.Type, ok = s.typeOf(e.Of)
		ok = ok && isRecord(e.Type)
	case api.EMake:
		ok = s.arrayFits(e)
	case api.ELen:
		e.Type = integer
		ok = e.Kids[0].Type.Dims > 0
	default:
		ok = operationFits(e)
	}
	return ok
}

func isRecord(t api.Type) bool { return t.Base == api.TRec && t.Dims == 0 }

func (s *scope) fieldFits(e *api.Expr) bool {
	of := e.Kids[0].Type
	if !isRecord(of) {
		return false
	}
	i, ok := s.fields[of.Rec][e.Name]
	if !ok {
		return false
	}
	e.Ref, e.Type = i, s.known.Recs[of.Rec].Fields[i].Type
	return true
}

func itemFits(e *api.Expr) bool {
	e.Type = e.Kids[0].Type
	e.Type.Dims--
	return e.Kids[0].Type.Dims > 0 && e.Kids[1].Type == integer
}

func (s *scope) callFits(e *api.Expr) bool {
	i, ok := s.functions[e.Name]
	if !ok {
		return false
	}
	sig := s.known.Sigs[i]
	e.Ref, e.Type = i, sig.Result
	return slices.EqualFunc(e.Kids, sig.Params, func(kid api.Expr, p api.Field) bool { return kid.Type == p.Type })
}

// arrayFits is about an EMake, which has one dimension more than its Of.
func (s *scope) arrayFits(e *api.Expr) bool {
	element, ok := s.typeOf(e.Of)
	e.Type = element
	e.Type.Dims++
	return ok && element.Dims < api.MaxDims && e.Kids[0].Type == integer
}

func operationFits(e *api.Expr) bool {
	var operand api.Type
	switch e.Kind {
	case api.ENeg, api.EAdd, api.ESub, api.EMul, api.EDiv, api.ERem:
		operand, e.Type = integer, integer
	case api.ELess, api.ELeq:
		operand, e.Type = integer, boolean
	case api.ESame, api.EDiff:
		operand, e.Type = e.Kids[0].Type, boolean
	case api.ENot, api.EAnd, api.EOr:
		operand, e.Type = boolean, boolean
	}
	return !slices.ContainsFunc(e.Kids, func(kid api.Expr) bool { return kid.Type != operand })
}
