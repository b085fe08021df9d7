package sure_test

import (
	"math/rand"
	"strconv"
	"strings"
	"testing"

	"runrig/api"
	"runrig/sure"
)

// shapes are all lists of so many statements in all, written in one letter each: a declaration of x without (V) and with a
// value (L), an assignment (A), a print (P) and a return (R); a loop is [body], and a conditional (body|else). At most one of
// them declares x.
func shapes(count int, known map[int][]string) []string {
	if list, ok := known[count]; ok {
		return list
	}
	var list []string
	add := func(s string) {
		if strings.Count(s, "V")+strings.Count(s, "L") < 2 {
			list = append(list, s)
		}
	}
	if count == 0 {
		add("")
	} else {
		for _, a := range shapes(count-1, known) {
			for _, letter := range []string{"V", "L", "A", "P", "R"} {
				add(letter + a)
			}
		}
	}
	for first := range count {
		for _, a := range shapes(first, known) {
			for _, b := range shapes(count-1-first, known) {
				add("[" + a + "]" + b)
			}
			for second := range count - first {
				for _, b := range shapes(second, known) {
					for _, c := range shapes(count-1-first-second, known) {
						add("(" + a + "|" + b + ")" + c)
					}
				}
			}
		}
	}
	known[count] = list
	return list
}

// builder makes statements of a shape, each expression at a place of its own.
type builder struct {
	rest string
	at   int
}

func (b *builder) expr(kind int) []api.Expr {
	b.at++
	return []api.Expr{{Kind: kind, Name: "x", At: b.at}}
}

func (b *builder) block() []api.Stmt {
	var list []api.Stmt
	for b.rest != "" {
		letter := b.rest[0]
		b.rest = b.rest[1:]
		integer := api.Of{Name: "int"}
		switch letter {
		case 'V':
			list = append(list, api.Stmt{Kind: api.SVar, Name: "x", Of: integer})
		case 'L':
			list = append(list, api.Stmt{Kind: api.SLet, Name: "x", Of: integer, Es: b.expr(api.EInt)})
		case 'A':
			list = append(list, api.Stmt{Kind: api.SSet, Name: "x", Es: b.expr(api.EInt)})
		case 'P':
			list = append(list, api.Stmt{Kind: api.SPrint, Es: b.expr(api.EVar)})
		case 'R':
			list = append(list, api.Stmt{Kind: api.SRet})
		case '[':
			list = append(list, api.Stmt{Kind: api.SWhile, Es: b.expr(api.EBool), Body: b.block()})
		case '(':
			list = append(list, api.Stmt{Kind: api.SIf, Es: b.expr(api.EBool), Body: b.block(), Else: b.block()})
		default:
			return list
		}
	}
	return list
}

func shaped(shape string) api.Prog {
	b := builder{rest: shape}
	return api.Prog{Globals: []api.Param{{Name: "x", Of: api.Of{Name: "int"}}}, Funcs: []api.Func{{Name: "main", Body: b.block()}}}
}

// P9.1: all bodies of up to five statements, where x is a global until it is declared.
func TestAllShapes(t *testing.T) {
	known := map[int][]string{}
	counts := map[api.Errno]int{}
	for count := range 6 {
		for _, shape := range shapes(count, known) {
			p := shaped(shape)
			got, want := sure.Check(p), expected(p)
			if got != want {
				t.Fatalf("Check of %s = %v; want %v", shape, got, want)
			}
			counts[got.E]++
		}
	}
	if counts[api.OK] < 1000 || counts[api.ErrType] < 1000 {
		t.Errorf("there are not enough programs of both kinds: %v", counts)
	}
}

// P9.2: all bodies without an SVar, of which each declaration stands directly in the body.
func TestAllShapesWithoutVars(t *testing.T) {
	known := map[int][]string{}
	for count := range 6 {
		for _, shape := range shapes(count, known) {
			// Only what is declared within brackets has one of them open around it.
			before, _, declared := strings.Cut(shape, "L")
			nested := strings.Count(before, "[")+strings.Count(before, "(") > strings.Count(before, "]")+strings.Count(before, ")")
			if strings.Contains(shape, "V") || declared && nested {
				continue
			}
			if got := sure.Check(shaped(shape)); got != (api.Fault{}) {
				t.Fatalf("Check of %s = %v", shape, got)
			}
		}
	}
}

// maker makes programs at random that the type checker lets pass: with variables of the type int, and l, an array of them.
type maker struct {
	*rand.Rand
	functions []string
	globals   []string
	visible   []string // the locals
	free      []string // the names for other locals
	at        int
	oneOf     int  // one of so many leaves is a variable
	direct    bool // whether there are only SLets, directly in bodies
}

// place is a place of its own for each item; the later items do not always have the later ones.
func (m *maker) place() int {
	m.at++
	return m.at * (1 - 2*m.Intn(2))
}

func (m *maker) variable() string {
	all := append(append([]string{}, m.visible...), m.globals...)
	return all[m.Intn(len(all))]
}

func (m *maker) expr(depth int) api.Expr {
	e := api.Expr{At: m.place()}
	if depth == 0 || m.Intn(2) == 0 {
		e.Kind, e.N = api.EInt, 1
		if m.Intn(m.oneOf) == 0 {
			e.Kind, e.N, e.Name = api.EVar, 0, m.variable()
		}
		return e
	}
	first, second := m.expr(depth-1), m.expr(depth-1)
	switch m.Intn(4) {
	case 0:
		e.Kind, e.Kids = api.ENeg, []api.Expr{first}
	case 1:
		e.Kind, e.Kids = api.EItem, []api.Expr{{Kind: api.EVar, Name: "l", At: m.place()}, first}
	case 2:
		e.Kind, e.Name, e.Kids = api.ECall, m.functions[m.Intn(len(m.functions))], []api.Expr{first, second}
	default:
		e.Kind, e.Kids = api.ESub, []api.Expr{first, second}
	}
	return e
}

func (m *maker) condition() []api.Expr {
	return []api.Expr{{Kind: api.ELess, Kids: []api.Expr{m.expr(1), m.expr(1)}, At: m.place()}}
}

// declaration is an SVar or an SLet of a name that is free; the name is that of a local from its end on.
func (m *maker) declaration() api.Stmt {
	s := api.Stmt{Kind: api.SVar, Name: m.free[0], Of: api.Of{Name: "int"}, At: m.place()}
	if m.direct || m.Intn(3) == 0 {
		s.Kind, s.Es = api.SLet, []api.Expr{m.expr(2)}
	}
	m.visible, m.free = append(m.visible, s.Name), m.free[1:]
	return s
}

func (m *maker) stmt(depth int, has bool) api.Stmt {
	choice := m.Intn(12)
	if choice < 2 && len(m.free) > 0 && !(m.direct && depth < 3) {
		return m.declaration()
	}
	s := api.Stmt{Kind: api.SPrint, Es: []api.Expr{m.expr(2)}, At: m.place()}
	switch {
	case choice < 6:
		s.Kind, s.Name = api.SSet, m.variable()
	case choice < 7:
		item := api.Expr{Kind: api.EItem, Kids: []api.Expr{{Kind: api.EVar, Name: "l"}, m.expr(1)}}
		s.Kind, s.Es = api.SPut, append([]api.Expr{item}, s.Es...)
	case choice == 7 && m.Intn(3) == 0:
		s.Kind = api.SRet
		if !has {
			s.Es = nil
		}
	case choice < 10 && depth > 0:
		s.Kind, s.Es = api.SIf, m.condition()
		s.Body = m.block(depth-1, has)
		s.Else = m.block(depth-1, has)
	case choice == 10 && depth > 0:
		s.Kind, s.Es = api.SWhile, m.condition()
		s.Body = m.block(depth-1, has)
	}
	return s
}

func (m *maker) block(depth int, has bool) []api.Stmt {
	var list []api.Stmt
	for range m.Intn(5) {
		list = append(list, m.stmt(depth, has))
	}
	return list
}

// function has two parameters, if it is not main; names of locals may be those of globals.
func (m *maker) function(name string) api.Func {
	f := api.Func{Name: name, At: m.place()}
	m.free = []string{"a", "b", "c", "d", "e", "f", "main", "g"}
	m.Shuffle(len(m.free), func(i, j int) { m.free[i], m.free[j] = m.free[j], m.free[i] })
	m.visible = nil
	if name != "main" {
		f.Has, f.Result = true, api.Of{Name: "int"}
		for range 2 {
			f.Params = append(f.Params, api.Param{Name: m.free[0], Of: f.Result})
			m.visible, m.free = append(m.visible, m.free[0]), m.free[1:]
		}
	}
	f.Body = append(m.block(3, f.Has), m.block(3, f.Has)...)
	return f
}

func (m *maker) program() api.Prog {
	m.functions, m.globals = nil, []string{"a", "b", "x"}
	p := api.Prog{Globals: []api.Param{{Name: "l", Of: api.Of{Name: "int", Dims: 1}}}}
	for _, name := range m.globals {
		p.Globals = append(p.Globals, api.Param{Name: name, Of: api.Of{Name: "int"}})
	}
	for i := range 1 + m.Intn(3) {
		m.functions = append(m.functions, "f"+strconv.Itoa(i))
	}
	main := m.Intn(len(m.functions) + 1)
	for i, name := range append(m.functions, "main") {
		if i == main {
			p.Funcs = append(p.Funcs, m.function("main"))
		}
		if name != "main" {
			p.Funcs = append(p.Funcs, m.function(name))
		}
	}
	return p
}

// P9.1: programs at random, with few uses of locals and with many.
func TestRandomPrograms(t *testing.T) {
	m := maker{Rand: rand.New(rand.NewSource(9))}
	counts := map[api.Errno]int{}
	for i := range 30000 {
		m.at, m.oneOf = 0, 1+i%6
		p := m.program()
		got, want := sure.Check(p), expected(p)
		if got != want {
			t.Fatalf("Check(%+v) = %v; want %v", p, got, want)
		}
		counts[got.E]++
	}
	if counts[api.OK] < 1000 || counts[api.ErrType] < 1000 {
		t.Errorf("there are not enough programs of both kinds: %v", counts)
	}
}

// P9.2: programs at random without SVars and with all declarations directly in bodies.
func TestRandomProgramsWithoutVars(t *testing.T) {
	m := maker{Rand: rand.New(rand.NewSource(92)), oneOf: 1, direct: true}
	for range 10000 {
		p := m.program()
		if got := sure.Check(p); got != (api.Fault{}) {
			t.Fatalf("Check(%+v) = %v", p, got)
		}
	}
}

// P9.2: each kind of statement with locals that are all declared directly in the body, and what is no such body.
func TestWithoutVars(t *testing.T) {
	checkBodies(t,
		"", "let x: int = 1; if b { x = 2; } while b { x = 3; } print x;", "return 1; let x: int = 1; print x;", "if b { return 1; } let x: int = 1; print x;", "let x: int = i; let y: int = x; if x < y { print x; } else { while y < x { e(y); } } return x;", "while b { return 1; } let x: R = r; x.n = a[i]; x.r = x;",
		"let x: int = 1; if b { let y: int = x; print y; } print #y;", "let x: int = 1; while b { let y: int = x; print y; } print #y;", "let x: int = 1; var y: int; print #y;")
}
