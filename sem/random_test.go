package sem_test

import (
	"math"
	"math/rand"
	"slices"
	"strconv"
	"testing"

	"runrig/api"
)

// maker makes programs at random that are correct, and whose runs go on for a while.
type maker struct {
	*rand.Rand
	p       api.Prog
	locals  []api.Param
	visible []string // the names that are taken
	f       api.Func
	calls   int // one of so many expressions may be a call
}

func of(name string, dims int) api.Of { return api.Of{Name: name, Dims: dims} }

func types() []api.Of {
	return []api.Of{of("int", 0), of("int", 0), of("bool", 0), of("R", 0), of("S", 0), of("int", 1), of("R", 1), of("bool", 2)}
}

// pick is one of a list.
func pick[T any](m *maker, list ...T) T { return list[m.Intn(len(list))] }

// members are fields or parameters of names from a pool, in any order.
func (m *maker) members(least, most int) []api.Param {
	names := []string{"a", "b", "c", "d", "e", "f", "g", "h", "x", "y"}
	m.Shuffle(len(names), func(i, j int) { names[i], names[j] = names[j], names[i] })
	var list []api.Param
	for _, name := range names[:least+m.Intn(most-least+1)] {
		list = append(list, api.Param{Name: name, Of: pick(m, types()...)})
	}
	return list
}

func (m *maker) program() api.Prog {
	m.p = api.Prog{Globals: m.members(2, 8)}
	for _, name := range []string{"S", "E", "R"} {
		m.p.Recs = append(m.p.Recs, api.Rec{Name: name, Fields: m.members(1, 8)})
	}
	for i := range m.Intn(4) {
		m.p.Funcs = append(m.p.Funcs, api.Func{Name: "f" + strconv.Itoa(i), Params: m.members(0, 3), Has: m.Intn(4) > 0, Result: pick(m, types()...)})
	}
	m.p.Funcs = slices.Insert(m.p.Funcs, m.Intn(len(m.p.Funcs)+1), api.Func{Name: "main"})
	for i, f := range m.p.Funcs {
		m.f, m.locals, m.visible = f, slices.Clone(f.Params), nil
		for _, p := range f.Params {
			m.visible = append(m.visible, p.Name)
		}
		m.p.Funcs[i].Body = append(m.block(3), m.block(3)...)
	}
	return m.p
}

// leaf is an expression of a type without calls.
func (m *maker) leaf(o api.Of) api.Expr {
	switch {
	case m.Intn(6) == 0 && (o.Dims > 0 || o.Name == "R" || o.Name == "S"):
		return api.Expr{Kind: api.ENull, Of: o}
	case o.Dims > 0:
		return api.Expr{Kind: api.EMake, Of: of(o.Name, o.Dims-1), Kids: []api.Expr{{Kind: api.EInt, N: pick(m, 1, 2, 2, 3, 3, 5, 0, 50, 51, -1)}}}
	case o.Name == "bool":
		return api.Expr{Kind: api.EBool, N: m.Intn(2)}
	case o.Name != "int":
		return api.Expr{Kind: api.ENew, Of: o}
	case m.Intn(8) == 0:
		return api.Expr{Kind: api.ERead}
	}
	return api.Expr{Kind: api.EInt, N: pick(m, 0, 1, 1, 2, 2, 3, 4, -1, 7, 100, math.MaxInt, math.MinInt)}
}

// variables are the names of a type, as far as they denote variables here.
func (m *maker) variables(o api.Of) []string {
	var names []string
	for _, v := range m.locals {
		if v.Of == o {
			names = append(names, v.Name)
		}
	}
	for _, g := range m.p.Globals {
		if g.Of == o && !slices.Contains(m.visible, g.Name) {
			names = append(names, g.Name)
		}
	}
	return names
}

func (m *maker) node(depth, kind int, name string, kids ...api.Of) api.Expr {
	e := api.Expr{Kind: kind, Name: name}
	for _, kid := range kids {
		e.Kids = append(e.Kids, m.expr(kid, depth-1))
	}
	return e
}

// expr is an expression of a type.
func (m *maker) expr(o api.Of, depth int) api.Expr {
	if names := m.variables(o); len(names) > 0 && m.Intn(3) > 0 {
		return api.Expr{Kind: api.EVar, Name: pick(m, names...)}
	}
	if depth <= 0 || m.Intn(4) == 0 {
		return m.leaf(o)
	}
	if m.Intn(m.calls) == 0 {
		for _, f := range m.p.Funcs {
			if f.Has && f.Result == o {
				return m.call(f, depth)
			}
		}
	}
	if m.Intn(2) == 0 {
		return m.part(o, depth)
	}
	return m.operation(o, depth)
}

func (m *maker) call(f api.Func, depth int) api.Expr {
	e := api.Expr{Kind: api.ECall, Name: f.Name}
	for _, p := range f.Params {
		e.Kids = append(e.Kids, m.expr(p.Of, depth-1))
	}
	return e
}

// part is a field or an item of a type; the latter mostly one that there is.
func (m *maker) part(o api.Of, depth int) api.Expr {
	for _, rec := range m.p.Recs {
		for _, f := range rec.Fields {
			if f.Of == o && m.Intn(2) == 0 {
				return m.node(depth, api.EField, f.Name, of(rec.Name, 0))
			}
		}
	}
	array := of(o.Name, o.Dims+1)
	if !slices.Contains(types(), array) {
		return m.leaf(o)
	}
	if m.Intn(3) == 0 {
		return m.node(depth, api.EItem, "", array, of("int", 0))
	}
	return api.Expr{Kind: api.EItem, Kids: []api.Expr{m.expr(array, depth-1), {Kind: api.EInt, N: m.Intn(2)}}}
}

func (m *maker) operation(o api.Of, depth int) api.Expr {
	integer, boolean := of("int", 0), of("bool", 0)
	switch {
	case o == integer && m.Intn(4) == 0:
		return m.node(depth, api.ELen, "", pick(m, types()[5:]...))
	case o == integer:
		kind := pick(m, api.ENeg, api.EAdd, api.ESub, api.EMul, api.EDiv, api.ERem)
		if kind == api.ENeg {
			return m.node(depth, kind, "", integer)
		}
		return m.node(depth, kind, "", integer, integer)
	case o == boolean && m.Intn(3) == 0:
		return m.node(depth, pick(m, api.EAnd, api.EOr), "", boolean, boolean)
	case o == boolean && m.Intn(3) == 0:
		return m.node(depth, api.ENot, "", boolean)
	case o == boolean && m.Intn(2) == 0:
		other := pick(m, types()...)
		return m.node(depth, pick(m, api.ESame, api.EDiff), "", other, other)
	case o == boolean:
		return m.node(depth, pick(m, api.ELess, api.ELeq), "", integer, integer)
	case o.Dims > 0:
		e := m.node(depth, api.EMake, "", integer)
		e.Of = of(o.Name, o.Dims-1)
		return e
	}
	return m.leaf(o)
}

func (m *maker) block(depth int) []api.Stmt {
	var list []api.Stmt
	for range m.Intn(5) {
		list = append(list, m.stmts(depth)...)
	}
	return list
}

// declared are an SLet, or an SVar with an SSet somewhere behind it, of a name that is free. A local of a block is not used
// behind it.
func (m *maker) declared() []api.Stmt {
	name := pick(m, "a", "b", "c", "d", "e", "f", "g", "h", "x", "y")
	if slices.Contains(m.visible, name) {
		return nil
	}
	o := pick(m, types()...)
	s := api.Stmt{Kind: api.SLet, Name: name, Of: o}
	set := api.Stmt{Kind: api.SSet, Name: name}
	if m.Intn(2) == 0 {
		s.Kind = api.SVar
		m.visible = append(m.visible, name)
	}
	value := []api.Expr{m.expr(o, 3)}
	m.locals = append(m.locals, api.Param{Name: name, Of: o})
	if s.Kind == api.SLet {
		m.visible = append(m.visible, name)
		s.Es = value
		return []api.Stmt{s}
	}
	set.Es = value
	return []api.Stmt{s, set}
}

// inner is a block whose locals are forgotten behind it, as its statements may not be executed; their names stay taken.
func (m *maker) inner(depth int) []api.Stmt {
	count := len(m.locals)
	list := m.block(depth)
	m.locals = m.locals[:count]
	return list
}

func (m *maker) stmts(depth int) []api.Stmt {
	o := pick(m, types()...)
	names := m.variables(o)
	switch choice := m.Intn(14); {
	case choice < 2:
		return m.declared()
	case choice < 4 && len(names) > 0:
		return []api.Stmt{{Kind: api.SSet, Name: pick(m, names...), Es: []api.Expr{m.expr(o, 3)}}}
	case choice < 6:
		if place := m.part(o, 3); place.Kind == api.EField || place.Kind == api.EItem {
			return []api.Stmt{{Kind: api.SPut, Es: []api.Expr{place, m.expr(o, 2)}}}
		}
	case choice < 8 && depth > 0:
		condition := []api.Expr{m.expr(of("bool", 0), 3)}
		return []api.Stmt{{Kind: api.SIf, Es: condition, Body: m.inner(depth - 1), Else: m.inner(depth - 1)}}
	case choice < 9 && depth > 0:
		return []api.Stmt{{Kind: api.SWhile, Es: []api.Expr{m.expr(of("bool", 0), 3)}, Body: m.inner(depth - 1)}}
	case choice < 10 && m.Intn(3) == 0:
		return m.end()
	case choice < 11 && m.Intn(m.calls) == 0:
		return []api.Stmt{{Kind: api.SDo, Es: []api.Expr{m.call(pick(m, m.p.Funcs...), 3)}}}
	}
	return []api.Stmt{{Kind: api.SPrint, Es: []api.Expr{m.expr(of("int", 0), 3)}}}
}

func (m *maker) end() []api.Stmt {
	s := api.Stmt{Kind: api.SRet}
	if m.f.Has {
		s.Es = []api.Expr{m.expr(m.f.Result, 3)}
	}
	return []api.Stmt{s}
}

// P11.1 to P11.3: programs at random, with few calls and with many, and with several numbers of fuel each.
func TestRandomPrograms(t *testing.T) {
	m := maker{Rand: rand.New(rand.NewSource(11))}
	ends, codes := map[int]int{}, map[int]int{}
	for i := range 4000 {
		m.calls = 1 + i%7
		p := m.program()
		in := []int{3, 0, 1, -1, 2, 51, math.MaxInt, 1, 1, 2}[:m.Intn(11)]
		fuels := []int{m.Intn(3) - 1, 2000}
		for range 4 {
			fuels = append(fuels, m.Intn(300))
		}
		b := checkTold(t, p, in, fuels)
		ends[b.End]++
		codes[b.Code]++
	}
	for code := range api.TrapDeep + 1 {
		if codes[code] < 20 {
			t.Errorf("there are not enough runs that end with each trap: %v", codes)
		}
	}
	if ends[api.EndExit] < 500 || ends[api.EndFuel] < 50 {
		t.Errorf("there are not enough runs of each end: %v", ends)
	}
}
