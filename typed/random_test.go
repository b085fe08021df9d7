package typed_test

import (
	"math/rand"
	"slices"
	"testing"

	"runrig/api"
)

// maker makes programs at random that fit, and changes them.
type maker struct {
	*rand.Rand
	p      api.Prog
	locals []api.Param
	has    bool
	result api.Of
	at     int
}

// place is a place of its own for each item; the later items do not always have the later ones.
func (m *maker) place() int {
	m.at++
	return m.at * (1 - 2*m.Intn(2))
}

func pool() []string { return []string{"a", "b", "c", "d", "A", "B", "int", "bool", "main", "f"} }

// names are up to so many different ones.
func (m *maker) names(most int) []string {
	list := pool()
	m.Shuffle(len(list), func(i, j int) { list[i], list[j] = list[j], list[i] })
	return list[:m.Intn(most+1)]
}

func (m *maker) name() string { return pick(m, pool()...) }

// pick is one of a list.
func pick[T any](m *maker, list ...T) T { return list[m.Intn(len(list))] }

func (m *maker) of() api.Of {
	bases := []string{"int", "bool"}
	for _, r := range m.p.Recs {
		bases = append(bases, r.Name)
	}
	return of(pick(m, bases...), max(0, m.Intn(api.MaxDims+3)-2))
}

func (m *maker) params(most int) []api.Param {
	var list []api.Param
	for _, name := range m.names(most) {
		list = append(list, api.Param{Name: name, Of: m.of(), At: m.place()})
	}
	return list
}

// program is one that fits.
func (m *maker) program() api.Prog {
	m.p = api.Prog{}
	for _, name := range m.names(4) {
		m.p.Recs = append(m.p.Recs, api.Rec{Name: name, At: m.place()})
	}
	for i := range m.p.Recs {
		m.p.Recs[i].Fields = m.params(4)
	}
	m.p.Globals = m.params(4)
	for _, name := range slices.DeleteFunc(m.names(4), func(name string) bool { return name == "main" }) {
		m.p.Funcs = append(m.p.Funcs, api.Func{Name: name, Params: m.params(3), Has: m.Intn(2) == 0, Result: m.of(), At: m.place()})
	}
	m.p.Funcs = slices.Insert(m.p.Funcs, m.Intn(len(m.p.Funcs)+1), api.Func{Name: "main", At: m.place()})
	for i, f := range m.p.Funcs {
		m.locals, m.has, m.result = slices.Clone(f.Params), f.Has, f.Result
		m.p.Funcs[i].Body = m.block(2)
	}
	return m.p
}

func isRecordOf(o api.Of) bool { return o.Dims == 0 && o.Name != "int" && o.Name != "bool" }

// leaf is an expression of a type without Kids.
func (m *maker) leaf(o api.Of) api.Expr {
	switch {
	case isRecordOf(o) && m.Intn(2) == 0:
		return api.Expr{Kind: api.ENew, Of: o, At: m.place()}
	case o.Dims > 0 || isRecordOf(o):
		return api.Expr{Kind: api.ENull, Of: o, At: m.place()}
	case o.Name == "bool":
		return api.Expr{Kind: api.EBool, N: m.Intn(2), At: m.place()}
	case m.Intn(3) == 0:
		return api.Expr{Kind: api.ERead, At: m.place()}
	}
	return api.Expr{Kind: api.EInt, N: m.Intn(10) - 5, At: m.place()}
}

// node is an expression with Kids of these types.
func (m *maker) node(depth, kind int, name string, o api.Of, kids ...api.Of) api.Expr {
	e := api.Expr{Kind: kind, Name: name, Of: o, At: m.place()}
	for _, kid := range kids {
		e.Kids = append(e.Kids, m.expr(kid, depth-1))
	}
	return e
}

// expr is an expression of a type.
func (m *maker) expr(o api.Of, depth int) api.Expr {
	list := []func() api.Expr{func() api.Expr { return m.leaf(o) }}
	for _, name := range m.variablesOf(o) {
		use := func() api.Expr { return api.Expr{Kind: api.EVar, Name: name, At: m.place()} }
		list = append(list, use, use)
	}
	if depth > 0 {
		list = append(list, m.members(o, depth)...)
		list = append(list, m.operations(o, depth)...)
	}
	return pick(m, list...)()
}

// variablesOf are the names that denote variables of a type here.
func (m *maker) variablesOf(o api.Of) []string {
	var names []string
	for _, v := range m.locals {
		if v.Of == o {
			names = append(names, v.Name)
		}
	}
	for _, g := range m.p.Globals {
		if g.Of == o && !m.isLocal(g.Name) {
			names = append(names, g.Name)
		}
	}
	return names
}

func (m *maker) isLocal(name string) bool {
	return slices.ContainsFunc(m.locals, func(v api.Param) bool { return v.Name == name })
}

// members are fields, items and calls of a type.
func (m *maker) members(o api.Of, depth int) []func() api.Expr {
	var list []func() api.Expr
	for _, rec := range m.p.Recs {
		for _, f := range rec.Fields {
			if f.Of == o && isRecordOf(of(rec.Name, 0)) {
				list = append(list, func() api.Expr { return m.node(depth, api.EField, f.Name, api.Of{}, of(rec.Name, 0)) })
			}
		}
	}
	if o.Dims < api.MaxDims {
		list = append(list, func() api.Expr {
			return m.node(depth, api.EItem, "", api.Of{}, of(o.Name, o.Dims+1), of("int", 0))
		})
	}
	for _, f := range m.p.Funcs {
		if f.Has && f.Result == o {
			list = append(list, func() api.Expr { return m.call(f, depth) })
		}
	}
	return list
}

func (m *maker) call(f api.Func, depth int) api.Expr {
	e := api.Expr{Kind: api.ECall, Name: f.Name, At: m.place()}
	for _, param := range f.Params {
		e.Kids = append(e.Kids, m.expr(param.Of, depth-1))
	}
	return e
}

// operations are all other expressions of a type.
func (m *maker) operations(o api.Of, depth int) []func() api.Expr {
	node := func(kind int, kids ...api.Of) func() api.Expr {
		return func() api.Expr { return m.node(depth, kind, "", api.Of{}, kids...) }
	}
	integer, boolean, other := of("int", 0), of("bool", 0), m.of()
	switch {
	case o == integer:
		kind := pick(m, api.EAdd, api.ESub, api.EMul, api.EDiv, api.ERem)
		return []func() api.Expr{node(kind, integer, integer), node(api.ENeg, integer), node(api.ELen, of(other.Name, m.Intn(api.MaxDims)+1))}
	case o == boolean:
		return []func() api.Expr{
			node(api.ENot, boolean), node(pick(m, api.EAnd, api.EOr), boolean, boolean), node(pick(m, api.ELess, api.ELeq), integer, integer), node(pick(m, api.ESame, api.EDiff), other, other),
		}
	case o.Dims > 0:
		return []func() api.Expr{func() api.Expr { return m.node(depth, api.EMake, "", of(o.Name, o.Dims-1), integer) }}
	}
	return nil
}

func (m *maker) block(depth int) []api.Stmt {
	var list []api.Stmt
	for range m.Intn(5) {
		list = append(list, m.stmt(depth))
	}
	return list
}

func (m *maker) stmt(depth int) api.Stmt {
	s := api.Stmt{Kind: m.Intn(api.SDo) + 1, At: m.place()}
	o := m.of()
	name := m.name()
	names := m.variablesOf(o)
	switch {
	case depth == 0 && (s.Kind == api.SIf || s.Kind == api.SWhile), (s.Kind == api.SVar || s.Kind == api.SLet) && m.isLocal(name), s.Kind == api.SSet && len(names) == 0:
		s.Kind = api.SPrint
	}
	switch s.Kind {
	case api.SVar, api.SLet:
		s.Name, s.Of = name, o
		if s.Kind == api.SLet {
			s.Es = []api.Expr{m.expr(o, 3)}
		}
		m.locals = append(m.locals, api.Param{Name: name, Of: o})
	case api.SSet:
		s.Name, s.Es = pick(m, names...), []api.Expr{m.expr(o, 3)}
	case api.SPut:
		s.Es = m.put()
	case api.SIf, api.SWhile:
		s.Es = []api.Expr{m.expr(of("bool", 0), 3)}
		s.Body = m.block(depth - 1)
		if s.Kind == api.SIf {
			s.Else = m.block(depth - 1)
		}
	case api.SRet:
		if m.has {
			s.Es = []api.Expr{m.expr(m.result, 3)}
		}
	case api.SPrint:
		s.Es = []api.Expr{m.expr(of("int", 0), 3)}
	case api.SDo:
		s.Es = []api.Expr{m.call(pick(m, m.p.Funcs...), 3)}
	}
	return s
}

// put is a field or an item, and a value for it.
func (m *maker) put() []api.Expr {
	rec := api.Rec{Name: "int"}
	if len(m.p.Recs) > 0 {
		rec = pick(m, m.p.Recs...)
	}
	if isRecordOf(of(rec.Name, 0)) && len(rec.Fields) > 0 && m.Intn(2) == 0 {
		f := pick(m, rec.Fields...)
		return []api.Expr{m.node(3, api.EField, f.Name, api.Of{}, of(rec.Name, 0)), m.expr(f.Of, 3)}
	}
	array := of(m.of().Name, m.Intn(api.MaxDims)+1)
	return []api.Expr{m.node(3, api.EItem, "", api.Of{}, array, of("int", 0)), m.expr(of(array.Name, array.Dims-1), 3)}
}

func clonedExprs(list []api.Expr) []api.Expr {
	list = slices.Clone(list)
	for i := range list {
		list[i].Kids = clonedExprs(list[i].Kids)
	}
	return list
}

// damage changes one thing somewhere, after which the program may still fit.
func (m *maker) damage(p *api.Prog) {
	var exprs []*api.Expr
	var stmts []*api.Stmt
	for _, f := range p.Funcs {
		exprs = append(exprs, exprsOf(f.Body)...)
		stmts = append(stmts, stmtsOf(f.Body)...)
	}
	if len(exprs) == 0 {
		return
	}
	other := pick(m, exprs...)
	spare := clonedExprs([]api.Expr{*other})
	if m.Intn(3) > 0 {
		m.damageExpr(pick(m, exprs...), spare)
	} else {
		m.damageStmt(pick(m, stmts...), *pick(m, stmts...), spare)
	}
}

// damageExpr takes one more expression, which may come into the list of Kids.
func (m *maker) damageExpr(e *api.Expr, spare []api.Expr) {
	switch m.Intn(8) {
	case 0:
		e.Kind = m.Intn(api.EOr+3) - 1
	case 1:
		e.Name = m.name()
	case 2:
		e.Of = m.strangeOf()
	case 3:
		e.N = m.Intn(5) - 1
	case 4:
		e.Kids = e.Kids[:max(len(e.Kids)-1, 0)]
	case 5:
		e.Kids = append(e.Kids, spare...)
	case 6:
		slices.Reverse(e.Kids)
	case 7:
		*e = spare[0]
	}
}

// damageStmt takes one more statement, with which this one may change places in part, and one more expression.
func (m *maker) damageStmt(s *api.Stmt, other api.Stmt, spare []api.Expr) {
	switch m.Intn(8) {
	case 0:
		s.Kind = m.Intn(api.SDo+3) - 1
	case 1:
		s.Name = m.name()
	case 2:
		s.Of = m.strangeOf()
	case 3:
		s.Es = s.Es[:max(len(s.Es)-1, 0)]
	case 4:
		s.Es = append(s.Es, spare...)
	case 5:
		s.Es = clonedExprs(other.Es)
	case 6:
		slices.Reverse(s.Body)
	case 7:
		s.Body, s.Else = s.Else, s.Body
	}
}

// strangeOf is often a type that does not exist.
func (m *maker) strangeOf() api.Of {
	return pick(m, api.Of{}, of("X", 0), of("int", -1), of("bool", api.MaxDims+1), of("int", api.MaxDims), m.of(), m.of(), m.of())
}

// clutterSome sets fields that no kind uses, in about half of all statements and expressions.
func (m *maker) clutterSome(p *api.Prog) {
	for _, f := range p.Funcs {
		for _, e := range exprsOf(f.Body) {
			if m.Intn(2) == 0 {
				clutterExpr(e)
			}
		}
		for _, s := range stmtsOf(f.Body) {
			if m.Intn(2) == 0 {
				clutterStmt(s)
			}
		}
	}
}

// programs are so many at random, each with its number of changes.
func programs(count int, do func(p api.Prog)) {
	m := maker{Rand: rand.New(rand.NewSource(8))}
	for i := range count {
		p := m.program()
		for range i % 3 {
			m.damage(&p)
		}
		if m.Intn(2) == 0 {
			m.clutterSome(&p)
		}
		do(p)
	}
}

// P8.1, P8.2: what the reference says.
func TestManyPrograms(t *testing.T) {
	correct, refused := 0, 0
	programs(20000, func(p api.Prog) {
		want, fault := expected(p)
		if fault.E == api.OK {
			correct++
			checkTyped(t, p, want)
		} else {
			refused++
			checkRefused(t, p, fault.At)
		}
	})
	if correct < 7000 || refused < 7000 {
		t.Errorf("only %d programs that fit, and %d others", correct, refused)
	}
}

// P8.1: what the maker has made to fit does, and each kind of expression and of statement is among it.
func TestManyProgramsThatFit(t *testing.T) {
	m := maker{Rand: rand.New(rand.NewSource(9))}
	var exprs, stmts [api.EOr + 1]int
	for range 3000 {
		p := m.program()
		fitting(t, p)
		for _, f := range p.Funcs {
			for _, e := range exprsOf(f.Body) {
				exprs[e.Kind]++
			}
			for _, s := range stmtsOf(f.Body) {
				stmts[s.Kind]++
			}
		}
	}
	if slices.Min(exprs[1:]) < 100 || slices.Min(stmts[1:api.SDo+1]) < 100 {
		t.Errorf("too few of one kind: %v, %v", exprs, stmts)
	}
}

// P8.3: of many programs, the returned statements fit again, with the same result.
func TestManyProgramsAgain(t *testing.T) {
	m := maker{Rand: rand.New(rand.NewSource(10))}
	for range 3000 {
		p := m.program()
		want := fitting(t, p)
		checkTyped(t, again(p, want), want)
	}
}
