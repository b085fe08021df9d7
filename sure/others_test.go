package sure_test

import (
	"math"
	"reflect"
	"strconv"
	"strings"
	"testing"

	"runrig/api"
	"runrig/prog"
	"runrig/sure"
	"runrig/typed"
)

// everything has each kind of declaration, of statement and of expression, and no fault.
const everything = `record A { a: int; b: [B]; } record B { } record C { c: [[A]]; } global g: bool; global h: C;
	func f(a: A, b: bool): [C] { let c: [C] = new [C](a.a + read()); c[len(c) - 1] = h; return c; }
	func main() { var x: A; x = new A; x.b = null [B]; while !g && x != null A { if x.a <= 2 * 3 { x.a = -x.a; } else { let y: bool = true; g = y || false == (1 < 2); f(x, y); } } print x.a / 2 % 3; return; }
	func e(c: int): B { return new B; } func p() { p(); } `

// faulty is the same with a function more, whose loop asks for z at faultyPlace without a value.
const faulty = everything + "func q() { var z: int; if g { z = 1; } while z < 1 { } print 1; }"

var faultyPlace = strings.Index(faulty, "z < 1")

func checkFault(t *testing.T, p api.Prog, want api.Fault) {
	t.Helper()
	if got := sure.Check(p); got != want {
		t.Errorf("Check(%+v) = %v; want %v", p, got, want)
	}
}

// checkBoth wants the sample to pass, and the faulty one to be refused, after a change.
func checkBoth(t *testing.T, change func(p *api.Prog)) {
	t.Helper()
	p, q := parsed(t, everything), parsed(t, faulty)
	change(&p)
	change(&q)
	checkFault(t, p, api.Fault{})
	checkFault(t, q, api.Fault{E: api.ErrType, At: faultyPlace})
}

// eachExpr and eachStmt go through statements with all that is within them.
func eachExpr(list []api.Expr, do func(e *api.Expr)) {
	for i := range list {
		eachExpr(list[i].Kids, do)
		do(&list[i])
	}
}

func eachStmt(list []api.Stmt, do func(s *api.Stmt)) {
	for i := range list {
		eachStmt(list[i].Body, do)
		eachStmt(list[i].Else, do)
		do(&list[i])
	}
}

// clutter sets the fields that the kinds of expressions and statements do not use: among them blocks that would be refused, and
// what only the type checker says.
func clutter(p *api.Prog, ref int) {
	refused := func() []api.Stmt {
		return []api.Stmt{{Kind: api.SVar, Name: "clutter", Of: api.Of{Name: "int"}}, {Kind: api.SPrint, Es: []api.Expr{{Kind: api.EVar, Name: "clutter"}}}}
	}
	for i := range p.Funcs {
		eachStmt(p.Funcs[i].Body, func(s *api.Stmt) {
			s.Ref = ref
			if s.Kind != api.SIf {
				s.Else = refused()
				if s.Kind != api.SWhile {
					s.Body = refused()
				}
			}
			if s.Kind > api.SSet {
				s.Name, s.Of = "z", api.Of{Name: "int"}
			}
			eachExpr(s.Es, func(e *api.Expr) {
				e.Ref, e.Type = ref, api.Type{Base: api.TRec, Rec: 7, Dims: 2}
				if e.Kind != api.EVar && e.Kind != api.EField && e.Kind != api.ECall {
					e.Name = "z"
				}
			})
		})
	}
}

// P9.1: the samples, and what their kinds do not use.
func TestClutter(t *testing.T) {
	checkBoth(t, func(p *api.Prog) {})
	for _, ref := range []int{0, 1, -1, 2, -2, 99, math.MaxInt, math.MinInt} {
		checkBoth(t, func(p *api.Prog) { clutter(p, ref) })
	}
}

// P9.1: an expression that is no EVar asks for nothing, whatever its Name is, and the Else of a loop is none.
func TestFieldsThatAreNotUsed(t *testing.T) {
	for kind := 1; kind <= api.EOr; kind++ {
		e := api.Expr{Kind: kind, Name: "x", At: 5}
		if kind == api.EVar || kind == api.ECall {
			continue
		}
		for i := range kidCount(kind) {
			name := []string{"n", "i"}[i]
			if kind == api.EField {
				name = "r"
			} else if kind == api.EItem && i == 0 || kind == api.ELen {
				name = "l"
			} else if kind == api.ENot || kind == api.EAnd || kind == api.EOr {
				name = "b"
			}
			e.Kids = append(e.Kids, api.Expr{Kind: api.EVar, Name: name, At: 6 + i})
		}
		e.Of = api.Of{Name: "R"}
		integer := api.Of{Name: "int"}
		p := api.Prog{
			Recs:    []api.Rec{{Name: "R", Fields: []api.Param{{Name: "x", Of: integer}}}},
			Globals: []api.Param{{Name: "n", Of: integer}, {Name: "i", Of: integer}, {Name: "b", Of: api.Of{Name: "bool"}}, {Name: "r", Of: e.Of}, {Name: "l", Of: api.Of{Name: "int", Dims: 1}}},
			Funcs:   []api.Func{{Name: "main", Body: []api.Stmt{{Kind: api.SVar, Name: "x", Of: integer}, {Kind: api.SIf, Es: []api.Expr{{Kind: api.ESame, Kids: []api.Expr{e, e}}}}}}},
		}
		checkFault(t, p, api.Fault{})
		p.Funcs[0].Body[1].Es[0].Kids[1] = api.Expr{Kind: api.EVar, Name: "x", At: 8}
		if _, fault := typed.Check(p); fault.E == api.OK {
			checkFault(t, p, api.Fault{E: api.ErrType, At: 8})
		}
	}
	loop := api.Stmt{Kind: api.SWhile, Es: []api.Expr{{Kind: api.EBool}}, Else: []api.Stmt{{Kind: api.SPrint, Es: []api.Expr{{Kind: api.EVar, Name: "x", At: 8}}}}}
	p := api.Prog{Funcs: []api.Func{{Name: "main", Body: []api.Stmt{{Kind: api.SVar, Name: "x", Of: api.Of{Name: "int"}}, loop}}}}
	checkFault(t, p, api.Fault{})
}

// P9.1: a place is told as it stands, whatever it is, and says nothing of the order.
func TestPlaces(t *testing.T) {
	for _, at := range []int{0, -1, 1, math.MinInt, math.MaxInt, 1 << 40} {
		for _, later := range []int{0, -5, 5, math.MinInt, math.MaxInt} {
			p := parsed(t, "func main() { var x: int; print 1 + x; print x; }")
			for i := range p.Funcs[0].Body {
				p.Funcs[0].Body[i].At = later
			}
			p.Funcs[0].At = later
			sum := &p.Funcs[0].Body[1].Es[0]
			sum.At, sum.Kids[0].At, sum.Kids[1].At, p.Funcs[0].Body[2].Es[0].At = later, later, at, later
			checkFault(t, p, api.Fault{E: api.ErrType, At: at})
		}
	}
}

// P9.1: names that no text has are names like any others, also none at all, and long ones that differ only at their ends.
func TestOtherNames(t *testing.T) {
	long := strings.Repeat("n\x00\xff", 1<<16)
	names := []string{"", "int", "bool", "main", "1", "a b", "\x00", "\xff", "var", long, long + "a", long + "b"}
	integer := api.Of{Name: "int"}
	for i, name := range names {
		other := names[(i+1)%len(names)]
		variable := api.Expr{Kind: api.EVar, Name: name, At: 7}
		number := []api.Expr{{Kind: api.EInt}}
		p := api.Prog{Globals: []api.Param{{Name: name, Of: integer}, {Name: other, Of: integer}}, Funcs: []api.Func{{Name: "main", Body: []api.Stmt{
			{Kind: api.SPrint, Es: []api.Expr{variable}}, {Kind: api.SVar, Name: name, Of: integer}, {Kind: api.SSet, Name: other, Es: number}, {Kind: api.SVar, Name: other, Of: integer}, {Kind: api.SSet, Name: other, Es: number}, {Kind: api.SPrint, Es: []api.Expr{variable}},
		}}}}
		if got := sure.Check(p); got != (api.Fault{E: api.ErrType, At: 7}) {
			t.Errorf("%.20q is not a name like others: %v", name, got)
		}
		p.Funcs[0].Body[4].Name = name
		if got := sure.Check(p); got != (api.Fault{}) {
			t.Errorf("%.20q is not a name like others: %v", name, got)
		}
	}
}

// P9.1: what the type checker refuses, in all ways in which a program may be none of chapter 5.
func TestStrangePrograms(t *testing.T) {
	for _, s := range []api.Stmt{
		{}, {Kind: -1}, {Kind: 10}, {Kind: math.MinInt}, {Kind: math.MaxInt}, {Kind: api.SPrint}, {Kind: api.SLet}, {Kind: api.SSet, Name: "x"}, {Kind: api.SPut}, {Kind: api.SIf}, {Kind: api.SWhile}, {Kind: api.SDo}, {Kind: api.SVar, Name: "y", Of: api.Of{Name: "int", Dims: -1}}, {Kind: api.SVar, Name: "y"},
		{Kind: api.SPrint, Es: []api.Expr{{}}}, {Kind: api.SPrint, Es: []api.Expr{{Kind: 25}}}, {Kind: api.SPrint, Es: []api.Expr{{Kind: api.EAdd}}}, {Kind: api.SPrint, Es: []api.Expr{{Kind: api.EVar, Name: "y"}}}, {Kind: api.SPrint, Es: []api.Expr{{Kind: api.EVar, Name: "x", Kids: []api.Expr{{Kind: api.EInt}}}}},
		{Kind: api.SDo, Es: []api.Expr{{Kind: api.EInt}}}, {Kind: api.SIf, Es: []api.Expr{{Kind: api.EBool, N: 2}}}, {Kind: api.SRet, Es: []api.Expr{{Kind: api.EInt}}},
	} {
		s.At = 9
		for i := range s.Es {
			s.Es[i].At = 8
		}
		use := api.Stmt{Kind: api.SPrint, Es: []api.Expr{{Kind: api.EVar, Name: "x", At: 7}}}
		p := api.Prog{Funcs: []api.Func{{Name: "main", Body: []api.Stmt{{Kind: api.SVar, Name: "x", Of: api.Of{Name: "int"}}, use, s}}}}
		_, want := typed.Check(p)
		if want.E != api.ErrType {
			t.Errorf("%+v is not refused by the type checker", s)
		}
		checkFault(t, p, want)
	}
}

// lists are all lists within a value.
func lists(v reflect.Value, do func(v reflect.Value)) {
	switch v.Kind() {
	case reflect.Struct:
		for i := range v.NumField() {
			lists(v.Field(i), do)
		}
	case reflect.Slice:
		for i := range v.Len() {
			lists(v.Index(i), do)
		}
		do(v)
	}
}

// widened has each list of a program lie in memory that goes on behind it.
func widened(p *api.Prog) {
	lists(reflect.ValueOf(p).Elem(), func(v reflect.Value) {
		wide := reflect.MakeSlice(v.Type(), v.Len()+2, v.Len()+2)
		reflect.Copy(wide, v)
		v.Set(wide.Slice(0, v.Len()))
	})
}

// behind tells whether a list of a program has anything but zero values in the memory behind it.
func behind(p *api.Prog) bool {
	found := false
	lists(reflect.ValueOf(p).Elem(), func(v reflect.Value) {
		for i := v.Len(); i < v.Cap(); i++ {
			found = found || !v.Slice(0, v.Cap()).Index(i).IsZero()
		}
	})
	return found
}

// W5, W6: arguments stay as they were, and so does the memory behind their lists; and empty lists are like those that are nil.
func TestArgumentsStay(t *testing.T) {
	for _, s := range []string{everything, faulty, everything + "func q() { var x: int; print x + true; }", ""} {
		for _, change := range []func(p *api.Prog){widened, func(p *api.Prog) { clutter(p, 1); widened(p) }} {
			p, _ := prog.Parse(s)
			want, _ := prog.Parse(s)
			change(&p)
			change(&want)
			sure.Check(p)
			if !reflect.DeepEqual(p, want) || behind(&p) {
				t.Errorf("%+v was changed to %+v", want, p)
			}
		}
	}
	checkBoth(t, widened)
}

// W2, W3: a result depends on the program alone, whatever was checked before.
func TestNothingIsKept(t *testing.T) {
	p, q := parsed(t, everything), parsed(t, faulty)
	for range 3 {
		checkFault(t, p, api.Fault{})
		checkFault(t, q, api.Fault{E: api.ErrType, At: faultyPlace})
		checkFault(t, api.Prog{}, api.Fault{E: api.ErrType})
	}
}

// nested is a program whose main is so many times one statement in another; x, a local, is printed in the innermost one.
func nested(count int, assigned bool, wrap func(i int, inner []api.Stmt) []api.Stmt) api.Prog {
	integer := api.Of{Name: "int"}
	body := []api.Stmt{{Kind: api.SPrint, Es: []api.Expr{{Kind: api.EVar, Name: "x", At: 9}}}}
	for i := range count {
		body = wrap(i, body)
	}
	first := api.Stmt{Kind: api.SVar, Name: "x", Of: integer}
	if assigned {
		first.Kind, first.Es = api.SLet, []api.Expr{{Kind: api.EInt}}
	}
	body = append([]api.Stmt{first}, body...)
	f := api.Func{Name: "f", Params: []api.Param{{Name: "x", Of: integer}}, Has: true, Result: integer}
	return api.Prog{Funcs: []api.Func{f, {Name: "main", Body: body}}}
}

// W1: nested more deeply than a text can be; with a local of its own at each depth, too.
func TestDeepNesting(t *testing.T) {
	const depth = 1 << 16
	condition, number := []api.Expr{{Kind: api.EBool}}, []api.Expr{{Kind: api.EInt}}
	around := func(build func(e api.Expr) api.Expr) func(i int, inner []api.Stmt) []api.Stmt {
		return func(i int, inner []api.Stmt) []api.Stmt {
			inner[0].Es[0] = build(inner[0].Es[0])
			return inner
		}
	}
	for i, wrap := range []func(i int, inner []api.Stmt) []api.Stmt{
		around(func(e api.Expr) api.Expr { return api.Expr{Kind: api.ENeg, Kids: []api.Expr{e}} }),
		around(func(e api.Expr) api.Expr { return api.Expr{Kind: api.EAdd, Kids: []api.Expr{{Kind: api.EInt}, e}} }),
		around(func(e api.Expr) api.Expr { return api.Expr{Kind: api.ECall, Name: "f", Kids: []api.Expr{e}} }),
		func(i int, inner []api.Stmt) []api.Stmt {
			return []api.Stmt{{Kind: api.SIf, Es: condition, Body: inner}}
		},
		func(i int, inner []api.Stmt) []api.Stmt {
			return []api.Stmt{{Kind: api.SIf, Es: condition, Else: inner}}
		},
		func(i int, inner []api.Stmt) []api.Stmt {
			return []api.Stmt{{Kind: api.SWhile, Es: condition, Body: inner}}
		},
		func(i int, inner []api.Stmt) []api.Stmt {
			name := strconv.Itoa(i)
			set := api.Stmt{Kind: api.SSet, Name: name, Es: number}
			branches := api.Stmt{Kind: api.SIf, Es: condition, Body: append([]api.Stmt{set}, inner...), Else: []api.Stmt{set}}
			use := api.Stmt{Kind: api.SPrint, Es: []api.Expr{{Kind: api.EVar, Name: name, At: 8}}}
			return []api.Stmt{{Kind: api.SVar, Name: name, Of: api.Of{Name: "int"}}, branches, use}
		},
	} {
		if got := sure.Check(nested(depth, true, wrap)); got != (api.Fault{}) {
			t.Errorf("what is nested like number %d is refused: %v", i, got)
		}
		if got := sure.Check(nested(depth, false, wrap)); got != (api.Fault{E: api.ErrType, At: 9}) {
			t.Errorf("what is nested like number %d is not refused: %v", i, got)
		}
	}
}

// W1: more locals and more branches than a text can have: both branches of each conditional give the first so many locals a
// value, of which the last one is used.
func TestLongLists(t *testing.T) {
	const count = 30000
	integer, condition, number := api.Of{Name: "int"}, []api.Expr{{Kind: api.EBool}}, []api.Expr{{Kind: api.EInt}}
	main := api.Func{Name: "main"}
	for i := range count {
		main.Body = append(main.Body, api.Stmt{Kind: api.SVar, Name: strconv.Itoa(i), Of: integer})
	}
	for i := range count {
		name := strconv.Itoa(i)
		set := api.Stmt{Kind: api.SSet, Name: name, Es: number}
		use := api.Stmt{Kind: api.SPrint, Es: []api.Expr{{Kind: api.EVar, Name: name, At: i}}}
		main.Body = append(main.Body, api.Stmt{Kind: api.SIf, Es: condition, Body: []api.Stmt{set}, Else: []api.Stmt{{Kind: api.SRet}}}, api.Stmt{Kind: api.SWhile, Es: condition, Body: []api.Stmt{use}}, use)
	}
	p := api.Prog{Funcs: []api.Func{main}}
	if got := sure.Check(p); got != (api.Fault{}) {
		t.Errorf("%v", got)
	}
	for _, i := range []int{count - 1, count / 2, 1, 0} {
		main.Body[count+3*i].Else = nil
		if got := sure.Check(p); got != (api.Fault{E: api.ErrType, At: i}) {
			t.Errorf("%v; want a fault at %d", got, i)
		}
	}
}
