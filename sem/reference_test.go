package sem_test

import (
	"slices"
	"strconv"
	"strings"
	"testing"

	"runrig/api"
	"runrig/sem"
	"runrig/show"
	"runrig/sure"
	"runrig/typed"
)

// This file holds runs against a second formulation of the chapter: an interpreter that calls itself for each part, knows no
// types and no numbers of variables but finds everything by its name, and writes a diary of all steps. What a run does with
// less fuel is where its diary is cut off.

// entry of a diary: a step, or else a printed number.
type entry struct {
	step    bool
	printed int
}

type diary struct {
	entries []entry
	end     int
	code    int
}

// cut is what there is of a run with so much fuel.
func (d diary) cut(fuel int) api.Beh {
	var b api.Beh
	for _, e := range d.entries {
		if e.step && b.Steps == max(fuel, 0) {
			b.End = api.EndFuel
			return b
		}
		if e.step {
			b.Steps++
		} else {
			b.Out = append(b.Out, e.printed)
		}
	}
	b.End, b.Code = d.end, d.code
	return b
}

// trapped and tooLong end a run, wherever it is.
type (
	trapped struct{ code int }
	tooLong struct{}
)

// object has its cells by the names of fields, or by the numbers of items.
type object struct {
	cells map[string]int
	size  int
}

type teller struct {
	records map[string]api.Rec
	bodies  map[string]api.Func
	vars    []map[string]int // the globals, and the locals of each frame
	objects []object
	in      []int
	diary   diary
	left    int
}

// resolved has each name of a variable begin with a sign that tells whether it is a local, as far as the text goes down to it.
func resolved(f api.Func) api.Func {
	locals := map[string]bool{}
	for _, p := range f.Params {
		locals[p.Name] = true
	}
	sign := func(name string) string {
		if locals[name] {
			return "l" + name
		}
		return "g" + name
	}
	var exprs func(list []api.Expr) []api.Expr
	exprs = func(list []api.Expr) []api.Expr {
		list = slices.Clone(list)
		for i := range list {
			if list[i].Kind == api.EVar {
				list[i].Name = sign(list[i].Name)
			}
			list[i].Kids = exprs(list[i].Kids)
		}
		return list
	}
	var stmts func(list []api.Stmt) []api.Stmt
	stmts = func(list []api.Stmt) []api.Stmt {
		list = slices.Clone(list)
		for i := range list {
			s := &list[i]
			s.Es = exprs(s.Es)
			if s.Kind == api.SVar || s.Kind == api.SLet {
				locals[s.Name] = true
			}
			s.Name = sign(s.Name)
			if s.Kind == api.SIf || s.Kind == api.SWhile {
				s.Body = stmts(s.Body)
			}
			if s.Kind == api.SIf {
				s.Else = stmts(s.Else)
			}
		}
		return list
	}
	f.Body = stmts(f.Body)
	return f
}

// told is the diary of a program that is correct; of a longer one only the first steps.
func told(p api.Prog, in []int, most int) (d diary) {
	m := teller{records: map[string]api.Rec{}, bodies: map[string]api.Func{}, vars: []map[string]int{{}}, in: in, left: most}
	for _, r := range p.Recs {
		m.records[r.Name] = r
	}
	for _, f := range p.Funcs {
		m.bodies[f.Name] = resolved(f)
	}
	defer func() {
		d = m.diary
		switch r := recover().(type) {
		case nil:
			d.end = api.EndExit
		case trapped:
			d.end, d.code = api.EndTrap, r.code
		case tooLong:
			d.entries = append(d.entries, entry{step: true})
		default:
			panic(r)
		}
	}()
	m.call("main", nil)
	return diary{}
}

func (m *teller) step() {
	if m.left == 0 {
		panic(tooLong{})
	}
	m.left--
	m.diary.entries = append(m.diary.entries, entry{step: true})
}

func (m *teller) call(name string, arguments []int) int {
	if len(m.vars) == 41 {
		panic(trapped{api.TrapDeep})
	}
	frame := map[string]int{}
	for i, p := range m.bodies[name].Params {
		frame["l"+p.Name] = arguments[i]
	}
	m.vars = append(m.vars, frame)
	result := m.block(m.bodies[name].Body)
	m.vars = m.vars[:len(m.vars)-1]
	return append(result, 0)[0]
}

// frameOf is where a variable of this name lies.
func (m *teller) frameOf(name string) map[string]int {
	if name[0] == 'g' {
		return m.vars[0]
	}
	return m.vars[len(m.vars)-1]
}

// block executes statements. It returns the value of the SRet with which they end, or nil.
func (m *teller) block(list []api.Stmt) []int {
	for _, s := range list {
		if result := m.statement(s); result != nil {
			return result
		}
	}
	return nil
}

func (m *teller) statement(s api.Stmt) []int {
	if s.Kind == api.SVar {
		return nil
	}
	m.step()
	switch s.Kind {
	case api.SLet, api.SSet:
		value := m.value(s.Es[0])
		m.frameOf(s.Name)[s.Name] = value
	case api.SPut:
		kids := m.valuesOf(s.Es[0].Kids)
		value := m.value(s.Es[1])
		o, cell := m.cell(s.Es[0], kids)
		o.cells[cell] = value
	case api.SIf:
		if m.value(s.Es[0]) != 0 {
			return m.block(s.Body)
		}
		return m.block(s.Else)
	case api.SWhile:
		for m.value(s.Es[0]) != 0 {
			if result := m.block(s.Body); result != nil {
				return result
			}
			m.step()
		}
	case api.SRet:
		return append(m.valuesOf(s.Es), 0)
	case api.SPrint:
		printed := m.value(s.Es[0])
		m.diary.entries = append(m.diary.entries, entry{printed: printed})
	case api.SDo:
		m.value(s.Es[0])
	}
	return nil
}

func (m *teller) valuesOf(list []api.Expr) []int {
	var values []int
	for _, e := range list {
		values = append(values, m.value(e))
	}
	return values
}

func (m *teller) object(ref int) object {
	if ref == 0 {
		panic(trapped{api.TrapNull})
	}
	return m.objects[ref-1]
}

// cell is the object and the name of the cell that a field or an item is.
func (m *teller) cell(e api.Expr, kids []int) (object, string) {
	o := m.object(kids[0])
	name := "." + e.Name
	if e.Kind == api.EItem {
		name = strconv.Itoa(kids[1])
	}
	if _, ok := o.cells[name]; !ok {
		panic(trapped{api.TrapIndex})
	}
	return o, name
}

func (m *teller) allocate(names []string) int {
	o := object{cells: map[string]int{}, size: len(names)}
	for _, name := range names {
		o.cells[name] = 0
	}
	m.objects = append(m.objects, o)
	return len(m.objects)
}

func (m *teller) value(e api.Expr) int {
	m.step()
	kids := m.valuesOf(e.Kids)
	switch e.Kind {
	case api.EInt, api.EBool:
		return e.N
	case api.ENull:
		return 0
	case api.EVar:
		return m.frameOf(e.Name)[e.Name]
	case api.EField, api.EItem:
		o, cell := m.cell(e, kids)
		return o.cells[cell]
	case api.ECall:
		return m.call(e.Name, kids)
	case api.ELen:
		return m.object(kids[0]).size
	case api.ENew, api.EMake:
		return m.created(e, kids)
	case api.ERead:
		if len(m.in) == 0 {
			panic(trapped{api.TrapRead})
		}
		value := m.in[0]
		m.in = m.in[1:]
		return value
	}
	return operated(e.Kind, kids)
}

func (m *teller) created(e api.Expr, kids []int) int {
	var names []string
	if e.Kind == api.ENew {
		for _, f := range m.records[e.Of.Name].Fields {
			names = append(names, "."+f.Name)
		}
		// The store has no greater records.
		return m.allocate(names[:min(len(names), 8)])
	}
	if kids[0] < 0 || kids[0] > 50 {
		panic(trapped{api.TrapSize})
	}
	for i := range kids[0] {
		names = append(names, strconv.Itoa(i))
	}
	return m.allocate(names)
}

func operated(kind int, kids []int) int {
	a, b := kids[0], kids[len(kids)-1]
	truth := map[bool]int{true: 1}
	switch kind {
	case api.ENeg:
		return -a
	case api.ENot:
		return 1 - a
	case api.EAdd:
		return a + b
	case api.ESub:
		return a - b
	case api.EMul:
		return a * b
	case api.EDiv, api.ERem:
		if b == 0 {
			panic(trapped{api.TrapDiv})
		}
		if kind == api.EDiv {
			return a / b
		}
		return a % b
	case api.ELess:
		return truth[a < b]
	case api.ELeq:
		return truth[a <= b]
	case api.ESame:
		return truth[a == b]
	case api.EDiff:
		return truth[a != b]
	case api.EAnd:
		return min(a, b)
	}
	return max(a, b)
}

// checkTold holds a program, which is correct, against its diary: with any fuel of these. It returns how it ends.
func checkTold(t *testing.T, p api.Prog, in []int, fuels []int) api.Beh {
	t.Helper()
	if _, fault := typed.Check(p); fault != (api.Fault{}) || sure.Check(p) != (api.Fault{}) {
		t.Fatalf("%s is not correct", show.Print(p))
	}
	d := told(p, in, slices.Max(fuels))
	for _, fuel := range fuels {
		if got, want := sem.Run(p, in, fuel), d.cut(fuel); !equal(got, want) {
			t.Fatalf("Run(%s, %v, %d) = %+v; want %+v", show.Print(p), in, fuel, got, want)
		}
	}
	return d.cut(slices.Max(fuels))
}

// upTo are all numbers from -1 to this one.
func upTo(most int) []int {
	fuels := []int{-1}
	for fuel := range most + 1 {
		fuels = append(fuels, fuel)
	}
	return fuels
}

// P11.1: each two parts next to each other, in each kind of expression and of statement that has two. The first 7 steps lead to them.
func TestPairsAreAsTold(t *testing.T) {
	parts := []string{"1", "-1", "x", "g", "read()", "say(2)", "bump()", "none()", "1 / 0", "k.n", "l[x]", "len(null [int])"}
	for _, first := range parts {
		for _, second := range parts {
			for _, text := range []string{
				"print 1 + 2;", "print 1 - 2;", "print 1 * 2;", "print 1 / 2;", "print 1 % 2;", "h = 1 < 2 && bump() < 3;", "if 1 <= 2 { print 1; } else { print g; }", "let z: bool = 1 == 2; if z { print x; }", "while 1 != 2 { g = g + 5; }",
				"print sub(1, 2);", "print new [int](1)[2];", "l[1] = 2;", "l[1 + 2] = 2;", "k.r.n = 1 - 2;", "new R.n = say(1) + say(2);", "new [int](1)[x] = 2;", "x = 1; g = 2; print x * g;", "say(1); say(2);",
			} {
				body := strings.NewReplacer("1", "("+first+")", "2", "("+second+")").Replace(text)
				s := inMain("l = new [int](3); g = 1; let x: int = 2; "+body+" print g;") + " func bump(): int { g = g + 1; return g; }"
				checkTold(t, parsed(t, s), []int{3, 0}, []int{8, 10, 11, 12, 13, 15, 17, 20, 1000})
			}
		}
	}
}

// P11.1 to P11.3: the samples with every number of fuel.
func TestSamplesAreAsTold(t *testing.T) {
	for _, s := range samples() {
		for _, in := range [][]int{nil, {0}, {1}, {3, 1}, {2, 5, 1, 0}, {5, 4, 3, 2, 1}, {-1, -1}, {27, 1, 1, 1, 1, 1}, {51}} {
			checkTold(t, parsed(t, s), in, upTo(300))
		}
	}
}
