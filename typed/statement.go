package typed

import (
	"strings"

	"runrig/api"
)

func (s *scope) block(list []api.Stmt) ([]api.Stmt, api.Fault) {
	var checked []api.Stmt
	for i := range list {
		checked = append(checked, api.Stmt{})
		if fault := s.statement(&list[i], &checked[i]); fault.E != api.OK {
			return nil, fault
		}
	}
	return checked, api.Fault{}
}

// statement checks a statement, and makes the result at its place in the new list.
func (s *scope) statement(st, checked *api.Stmt) api.Fault {
	if !s.hasStmtForm(st) {
		return refuse(st.At)
	}
	es, fault := s.expressionsOf(st)
	if fault.E != api.OK {
		return fault
	}
	takeStmt(st, checked)
	checked.Es = es
	if !s.stmtFits(checked) {
		return refuse(st.At)
	}
	return s.blocksOf(st, checked)
}

func (s *scope) hasStmtForm(st *api.Stmt) bool {
	if st.Kind < api.SVar || st.Kind > api.SDo || len(st.Es) != s.exprCount(st.Kind) {
		return false
	}
	switch st.Kind {
	case api.SVar, api.SLet:
		_, ok := s.typeOf(st.Of)
		return ok
	case api.SPut:
		return st.Es[0].Kind == api.EField || st.Es[0].Kind == api.EItem
	case api.SDo:
		return st.Es[0].Kind == api.ECall
	}
	return true
}

// exprCount is how many Es a statement of this kind has in this function.
func (s *scope) exprCount(kind int) int {
	switch {
	case kind == api.SVar, kind == api.SRet && !s.sig.Has:
		return 0
	case kind == api.SPut:
		return 2
	}
	return 1
}

// expressionsOf checks the Es of a statement. The call of an SDo alone needs no value.
func (s *scope) expressionsOf(st *api.Stmt) ([]api.Expr, api.Fault) {
	if st.Kind != api.SDo {
		return s.values(st.Es)
	}
	call := make([]api.Expr, 1)
	fault := s.expression(&st.Es[0], &call[0])
	return call, fault
}

// takeStmt takes over what the kind of a statement uses, but for its Es and its blocks.
func takeStmt(st, checked *api.Stmt) {
	*checked = api.Stmt{Kind: st.Kind, At: st.At}
	switch st.Kind {
	case api.SVar, api.SLet:
		checked.Name, checked.Of = strings.Clone(st.Name), copyOf(st.Of)
	case api.SSet:
		checked.Name = strings.Clone(st.Name)
	}
}

// stmtFits tells whether the conditions of a statement hold whose Es are checked, and sets its Ref. What it declares is
// visible from then on.
func (s *scope) stmtFits(st *api.Stmt) bool {
	switch st.Kind {
	case api.SVar, api.SLet:
		return s.declarationFits(st)
	case api.SSet:
		ref, t, ok := s.variable(st.Name)
		st.Ref = ref
		return ok && st.Es[0].Type == t
	case api.SPut:
		return st.Es[0].Type == st.Es[1].Type
	case api.SIf, api.SWhile:
		return st.Es[0].Type == boolean
	case api.SRet:
		return len(st.Es) == 0 || st.Es[0].Type == s.sig.Result
	case api.SPrint:
		return st.Es[0].Type == integer
	}
	return true
}

func (s *scope) declarationFits(st *api.Stmt) bool {
	t, _ := s.typeOf(st.Of)
	if st.Kind == api.SLet && st.Es[0].Type != t {
		return false
	}
	number, ok := s.add(st.Name, t)
	st.Ref = number
	return ok
}

// blocksOf checks the blocks of a statement, where its kind has any.
func (s *scope) blocksOf(st, checked *api.Stmt) api.Fault {
	var fault api.Fault
	if st.Kind == api.SIf || st.Kind == api.SWhile {
		checked.Body, fault = s.block(st.Body)
	}
	if st.Kind == api.SIf && fault.E == api.OK {
		checked.Else, fault = s.block(st.Else)
	}
	return fault
}
