package sem_test

import (
	"math"
	"reflect"
	"slices"
	"strconv"
	"strings"
	"sync"
	"testing"

	"runrig/api"
	"runrig/prog"
	"runrig/sem"
)

// checkNothing wants a program that is not correct not to run, whatever it is given.
func checkNothing(t *testing.T, p api.Prog) {
	t.Helper()
	for _, fuel := range []int{math.MinInt, -1, 0, 1, 2, 100, math.MaxInt} {
		for _, in := range [][]int{nil, {1, 2}} {
			if got := sem.Run(p, in, fuel); got.End != 0 || got.Code != 0 || got.Steps != 0 || len(got.Out) != 0 {
				t.Errorf("Run(%+v, %v, %d) = %+v; want the zero Beh", p, in, fuel, got)
			}
		}
	}
}

// P11.1: what the declarations, the type checker and definite assignment refuse, also where a run would not come by.
func TestFaults(t *testing.T) {
	for _, s := range []string{
		"", "func f() { }", "func main(a: int) { print 1; }", "func main(): int { print 1; }", "func main() { print 1; } func main() { print 1; }", "record R { } record R { } func main() { print 1; }", "global g: X; func main() { print 1; }", "func main() { print 1; } func f(a: int, a: int) { }",
		"func main() { print true; }", "func main() { print 1; print x; }", "func main() { print 1; return 1; }", "func main() { print 1; return; print true; }", "func main() { print 1; } func f() { print false; }", "func f() { print false; } func main() { print 1; }", "func main() { if false { f(); } print 1; }", "func main() { print 1; let x: int = x; }",
		"func main() { print 1; var x: int; print x; }", "func main() { print 1; var x: int; if false { print x; } }", "func main() { print 1; var x: int; while read() < 1 { x = 1; } print x; }", "func main() { print 1; } func f() { var x: int; print x; }", "func f(): bool { var x: bool; return x; } func main() { print 1; }", "func main() { let b: bool = true; var x: int; if b { x = 1; } print x; }",
	} {
		checkNothing(t, parsed(t, s))
	}
	// The same without its fault.
	checkText(t, "func main() { let b: bool = true; var x: int; if b { x = 1; } else { x = 2; } print x; }", nil, enough, exits(8, 1))
	checkText(t, "func main() { print 1; return; var x: int; x = 1; print x; }", nil, enough, exits(3, 1))
}

// P11.1: Progs that no text has and that are not correct.
func TestStrangeFaults(t *testing.T) {
	checkNothing(t, api.Prog{})
	checkNothing(t, api.Prog{Funcs: []api.Func{{}}})
	for _, s := range []api.Stmt{
		{}, {Kind: -1}, {Kind: 10}, {Kind: math.MinInt}, {Kind: math.MaxInt}, {Kind: api.SPrint}, {Kind: api.SLet}, {Kind: api.SSet, Name: "x"}, {Kind: api.SPut}, {Kind: api.SIf}, {Kind: api.SWhile}, {Kind: api.SDo}, {Kind: api.SVar, Name: "y", Of: of("int", -1)}, {Kind: api.SVar, Name: "y", Of: of("int", 4)}, {Kind: api.SVar, Name: "y"},
		{Kind: api.SPrint, Es: []api.Expr{{}}}, {Kind: api.SPrint, Es: []api.Expr{{Kind: 25}}}, {Kind: api.SPrint, Es: []api.Expr{{Kind: api.EAdd}}}, {Kind: api.SPrint, Es: []api.Expr{{Kind: api.EVar, Name: "y"}}}, {Kind: api.SPrint, Es: []api.Expr{{Kind: api.EInt, Kids: []api.Expr{{Kind: api.EInt}}}}}, {Kind: api.SPrint, Es: []api.Expr{{Kind: api.EInt}, {Kind: api.EInt}}},
		{Kind: api.SDo, Es: []api.Expr{{Kind: api.EInt}}}, {Kind: api.SDo, Es: []api.Expr{{Kind: api.ECall, Name: "x"}}}, {Kind: api.SIf, Es: []api.Expr{{Kind: api.EBool, N: 2}}}, {Kind: api.SRet, Es: []api.Expr{{Kind: api.EInt}}}, {Kind: api.SPrint, Es: []api.Expr{{Kind: api.ECall, Name: "main"}}},
	} {
		checkNothing(t, api.Prog{Funcs: []api.Func{{Name: "main", Body: []api.Stmt{{Kind: api.SVar, Name: "x", Of: of("int", 0)}, s}}}})
	}
}

func number(n int) api.Expr { return api.Expr{Kind: api.EInt, N: n} }

func printed(e api.Expr) api.Stmt { return api.Stmt{Kind: api.SPrint, Es: []api.Expr{e}} }

func mainOf(body ...api.Stmt) api.Func { return api.Func{Name: "main", Body: body} }

// P11.1: an EInt may be below 0, where no text has such a one.
func TestNumbersBelowZero(t *testing.T) {
	for _, n := range []int{-1, -50, math.MinInt} {
		checkProg(t, api.Prog{Funcs: []api.Func{mainOf(printed(number(n)))}}, nil, enough, exits(2, n))
		array := api.Expr{Kind: api.EMake, Of: of("int", 0), Kids: []api.Expr{number(n)}}
		checkProg(t, api.Prog{Funcs: []api.Func{mainOf(printed(api.Expr{Kind: api.ELen, Kids: []api.Expr{array}}))}}, nil, enough, traps(api.TrapSize, 4))
	}
}

// P11.1: a record with more fields than MaxFields has MaxFields cells, as the store allocates no more; the other fields are not
// there.
func TestTooManyFields(t *testing.T) {
	r := api.Rec{Name: "R"}
	for i := range 12 {
		r.Fields = append(r.Fields, api.Param{Name: "f" + strconv.Itoa(i), Of: of("int", 0)})
	}
	let := api.Stmt{Kind: api.SLet, Name: "r", Of: of("R", 0), Es: []api.Expr{{Kind: api.ENew, Of: of("R", 0)}}}
	for i, f := range r.Fields {
		field := api.Expr{Kind: api.EField, Name: f.Name, Kids: []api.Expr{{Kind: api.EVar, Name: "r"}}}
		put := api.Stmt{Kind: api.SPut, Es: []api.Expr{field, number(i + 5)}}
		p := api.Prog{Recs: []api.Rec{r}, Funcs: []api.Func{mainOf(let, printed(field), put, printed(field))}}
		q := api.Prog{Recs: []api.Rec{r}, Funcs: []api.Func{mainOf(let, put)}}
		if i < api.MaxFields {
			checkProg(t, p, nil, enough, exits(11, 0, i+5))
			checkProg(t, q, nil, enough, exits(5))
		} else {
			checkProg(t, p, nil, enough, traps(api.TrapIndex, 5))
			checkProg(t, q, nil, enough, traps(api.TrapIndex, 5))
		}
	}
}

// P11.1: more of everything than a text may have: each record, global, function, parameter and local is its own.
func TestLongLists(t *testing.T) {
	const count = 5000
	var p api.Prog
	all := api.Func{Name: "all"}
	call := api.Expr{Kind: api.ECall, Name: "all"}
	var body []api.Stmt
	var out []int
	for i := range count {
		name := strconv.Itoa(i)
		variable := []api.Expr{{Kind: api.EVar, Name: name}}
		param := api.Param{Name: name, Of: of("int", 0)}
		p.Recs = append(p.Recs, api.Rec{Name: name})
		p.Globals = append(p.Globals, param)
		p.Funcs = append(p.Funcs, api.Func{Name: name, Has: true, Result: of("int", 0), Body: []api.Stmt{{Kind: api.SRet, Es: []api.Expr{{Kind: api.EAdd, Kids: []api.Expr{variable[0], number(1)}}}}}})
		// The function of the name counts up from the global of the name, and main has a local of it.
		body = append(body, api.Stmt{Kind: api.SSet, Name: name, Es: []api.Expr{number(i)}}, api.Stmt{Kind: api.SLet, Name: name, Of: of("int", 0), Es: []api.Expr{{Kind: api.ECall, Name: name}}})
		call.Kids = append(call.Kids, variable[0])
		all.Params = append(all.Params, param)
		all.Body = append(all.Body, printed(variable[0]))
		out = append(out, i+1)
	}
	body = append(body, api.Stmt{Kind: api.SDo, Es: []api.Expr{call}})
	p.Funcs = append(p.Funcs, all, mainOf(body...))
	want := exits(count*(2+2+4)+2+count+count*2, out...)
	for fuel, want := range map[int]api.Beh{want.Steps: want, want.Steps - 1: stops(want.Steps-1, out[:count-1]...), enough: want, count: stops(count)} {
		if got := sem.Run(p, nil, fuel); !equal(got, want) {
			t.Errorf("with the fuel %d: End %d, Steps %d, %d printed; want %d, %d, %d", fuel, got.End, got.Steps, len(got.Out), want.End, want.Steps, len(want.Out))
		}
	}
}

// P11.2: long outputs and long inputs.
func TestLongOutput(t *testing.T) {
	const count = 300000
	in := make([]int, count)
	for i := range in {
		in[i] = i * i
	}
	p := parsed(t, "func main() { while true { print read(); } }")
	if got, want := sem.Run(p, in, math.MaxInt), traps(api.TrapRead, count*4+4, in...); !equal(got, want) {
		t.Errorf("End %d, Code %d, Steps %d, %d printed", got.End, got.Code, got.Steps, len(got.Out))
	}
	if got, want := sem.Run(p, in, count*2+1), stops(count*2+1, in[:count/2]...); !equal(got, want) {
		t.Errorf("End %d, Code %d, Steps %d, %d printed", got.End, got.Code, got.Steps, len(got.Out))
	}
}

// P11.1: nothing is ever freed: all objects of a long list are there, each with its own content.
func TestManyObjects(t *testing.T) {
	s := "record R { n: int; r: R; a: [int]; } func main() { var r: R; r = null R; let i: int = 0; while i < 20000 { let s: R = new R; s.n = i; s.r = r; s.a = new [int](2); s.a[1] = -i; r = s; i = i + 1; } let sum: int = 0; let n: int = 0; while r != null R { sum = sum + r.n * 2 + r.a[0] + r.a[1]; n = n + 1; if r.n + r.a[1] != 0 { print 0; } r = r.r; } print n; print sum; }"
	got := sem.Run(parsed(t, s), nil, math.MaxInt)
	if got.End != api.EndExit || !slices.Equal(got.Out, []int{20000, 20000 * 19999 / 2}) {
		t.Errorf("%+v", got)
	}
}

// everything has each kind of declaration, of statement and of expression.
const everything = `record A { a: int; b: [B]; } record B { } record C { c: [[A]]; } global g: bool; global h: C;
	func f(a: A, b: bool): [C] { let c: [C] = new [C](a.a + read()); c[len(c) - 1] = h; return c; }
	func main() { var x: A; x = new A; x.b = null [B]; while !g && x != null A { if x.a <= 2 * 3 { x.a = -x.a + 7; } else { let y: bool = true; g = y || false == (1 < 2); f(x, y); } } print x.a / 2 % 3; p(); return; }
	func e(c: int): B { return new B; } func p() { print read() - 1; p(); } `

func everyInput() []int { return []int{1, 4, 5, 6, 7} }

// eachExpr and eachStmt go through statements with all that is within them.
func eachExpr(list []api.Expr, do func(e *api.Expr)) {
	for i := range list {
		eachExpr(list[i].Kids, do)
		do(&list[i])
	}
}

func eachStmt(list []api.Stmt, do func(s *api.Stmt)) {
	for i := range list {
		eachStmt(list[i].Body, do)
		eachStmt(list[i].Else, do)
		do(&list[i])
	}
}

// clutter sets the fields that the kinds of expressions and statements do not use, and those that only the type checker says.
func clutter(p *api.Prog, ref int) {
	for i := range p.Funcs {
		if !p.Funcs[i].Has {
			p.Funcs[i].Result = of("B", 2)
		}
		eachStmt(p.Funcs[i].Body, func(s *api.Stmt) {
			s.Ref, s.At = ref, ref
			if s.Kind != api.SIf {
				s.Else = []api.Stmt{printed(number(99)), {Kind: 77}}
				if s.Kind != api.SWhile {
					s.Body = s.Else
				}
			}
			if s.Kind > api.SSet {
				s.Name, s.Of = "x", of("int", 0)
			}
			eachExpr(s.Es, func(e *api.Expr) {
				e.Ref, e.At, e.Type = ref, ref, api.Type{Base: api.TRec, Rec: 7, Dims: 2}
				if e.Kind > api.EBool {
					e.N = 1
				}
				if e.Kind != api.EVar && e.Kind != api.EField && e.Kind != api.ECall {
					e.Name = "x"
				}
				if e.Kind != api.ENull && e.Kind != api.ENew && e.Kind != api.EMake {
					e.Of = of("A", 1)
				}
			})
		})
	}
}

// P11.1: what the kinds do not use counts for nothing, nor does what is said of Types and Refs.
func TestClutter(t *testing.T) {
	for _, ref := range []int{0, 1, -1, 2, -2, 99, math.MaxInt, math.MinInt} {
		p := parsed(t, everything)
		want := sem.Run(p, everyInput(), enough)
		if want.End != api.EndTrap || want.Code != api.TrapRead || len(want.Out) != 5 {
			t.Errorf("the sample is run so: %+v", want)
		}
		clutter(&p, ref)
		for _, fuel := range append(upTo(want.Steps), enough) {
			checkProg(t, p, everyInput(), fuel, sem.Run(parsed(t, everything), everyInput(), fuel))
		}
	}
}

// P11.1: names that no text has are names like any others, also none at all, and long ones that differ only at their ends.
func TestOtherNames(t *testing.T) {
	long := strings.Repeat("n\x00\xff", 1<<12)
	names := []string{"", "int", "bool", "main", "1", "a b", "\x00", "\xff", "var", long, long + "a", long + "b"}
	for i, name := range names {
		other := names[(i+1)%len(names)]
		function := api.Func{Name: other + name, Params: []api.Param{{Name: name, Of: of("int", 0)}}, Has: true, Result: of("int", 0), Body: []api.Stmt{{Kind: api.SRet, Es: []api.Expr{{Kind: api.ESub, Kids: []api.Expr{{Kind: api.EVar, Name: name}, {Kind: api.EVar, Name: other}}}}}}}
		call := api.Expr{Kind: api.ECall, Name: other + name, Kids: []api.Expr{{Kind: api.EVar, Name: name}}}
		p := api.Prog{Globals: []api.Param{{Name: name, Of: of("int", 0)}, {Name: other, Of: of("int", 0)}}, Funcs: []api.Func{function, mainOf(
			api.Stmt{Kind: api.SSet, Name: name, Es: []api.Expr{number(7)}}, api.Stmt{Kind: api.SSet, Name: other, Es: []api.Expr{number(5)}},
			api.Stmt{Kind: api.SLet, Name: name, Of: of("int", 0), Es: []api.Expr{number(9)}}, printed(call),
		)}}
		checkProg(t, p, nil, enough, exits(13, 4))
	}
}

// lists are all lists within a value.
func lists(v reflect.Value, do func(v reflect.Value)) {
	switch v.Kind() {
	case reflect.Struct:
		for i := range v.NumField() {
			lists(v.Field(i), do)
		}
	case reflect.Slice:
		for i := range v.Len() {
			lists(v.Index(i), do)
		}
		do(v)
	}
}

// widened has each list of a program lie in memory that goes on behind it.
func widened(p *api.Prog) {
	lists(reflect.ValueOf(p).Elem(), func(v reflect.Value) {
		wide := reflect.MakeSlice(v.Type(), v.Len()+2, v.Len()+2)
		reflect.Copy(wide, v)
		v.Set(wide.Slice(0, v.Len()))
	})
}

// behind tells whether a list of a program has anything but zero values in the memory behind it.
func behind(p *api.Prog) bool {
	found := false
	lists(reflect.ValueOf(p).Elem(), func(v reflect.Value) {
		for i := v.Len(); i < v.Cap(); i++ {
			found = found || !v.Slice(0, v.Cap()).Index(i).IsZero()
		}
	})
	return found
}

// W5, W6: arguments stay as they were, and so does the memory behind their lists; and empty lists are like those that are nil.
func TestArgumentsStay(t *testing.T) {
	for _, s := range append(samples(), everything, everything+"func q() { print true; }", everything+"func q() { var x: int; print x; }", "") {
		for _, change := range []func(p *api.Prog){widened, func(p *api.Prog) { clutter(p, 1); widened(p) }} {
			plain, _ := prog.Parse(s)
			p, _ := prog.Parse(s)
			copied, _ := prog.Parse(s)
			change(&p)
			change(&copied)
			in := []int{3, 1, 4, 1, 5, 9, 2, 6}
			got := sem.Run(p, in[:4], 1000)
			if want := sem.Run(plain, []int{3, 1, 4, 1}, 1000); !equal(got, want) {
				t.Errorf("%q is run so: %+v; want %+v", s, got, want)
			}
			if !reflect.DeepEqual(p, copied) || behind(&p) {
				t.Errorf("%+v was changed to %+v", copied, p)
			}
			if !slices.Equal(in, []int{3, 1, 4, 1, 5, 9, 2, 6}) {
				t.Errorf("the input was changed to %v", in)
			}
		}
	}
}

// W6: what lies behind the input is no input, and what is printed lies in new memory.
func TestResultsAreNew(t *testing.T) {
	p := parsed(t, "func main() { while true { print read(); } }")
	all := []int{5, 6, 7, 8}
	in := all[:2]
	first, second := sem.Run(p, in, enough), sem.Run(p, in, enough)
	if want := traps(api.TrapRead, 12, 5, 6); !equal(first, want) || !equal(second, want) {
		t.Fatalf("%+v and %+v", first, second)
	}
	for _, out := range [][]int{first.Out, second.Out} {
		out = out[:cap(out)]
		for i := range out {
			out[i] = -1
		}
		if !slices.Equal(all, []int{5, 6, 7, 8}) {
			t.Errorf("the output shares memory with the input: %v", all)
		}
	}
	third := sem.Run(p, in, enough)
	first.Out[0] = -2
	if second.Out[0] != -1 || third.Out[0] != 5 {
		t.Errorf("two outputs share memory: %v, %v", second.Out, third.Out)
	}
	in[0] = 9
	if third.Out[0] != 5 {
		t.Errorf("the output shares memory with the input: %v", third.Out)
	}
}

// W2, W7: a run depends on its arguments alone, whatever was run before, and its result stays as it is.
func TestNothingIsKept(t *testing.T) {
	p, q := parsed(t, inMain("print g; g = g + 1; if k == null R { k = new R; print 1; } k.n = k.n + 2; print k.n; if new E == null E { } l = new [int](1); l[0] = l[0] + 3; print l[0]; print read();")), parsed(t, "func main() { print true; }")
	var results []api.Beh
	for range 3 {
		results = append(results, sem.Run(p, []int{8, 9}, enough))
		checkNothing(t, q)
		results = append(results, sem.Run(p, []int{8}, enough))
		checkProg(t, p, nil, 9, stops(9, 0))
	}
	for _, got := range results {
		if want := exits(results[0].Steps, 0, 1, 2, 3, 8); !equal(got, want) {
			t.Errorf("%+v; want %+v", got, want)
		}
	}
}

// W9: runs of several goroutines do not meet.
func TestRunsOfGoroutines(t *testing.T) {
	p := parsed(t, inMain("while g < 100 { set(g + 1); l = new [int](2); l[1] = read(); say(l[1] + g); }"))
	var group sync.WaitGroup
	for worker := range 8 {
		group.Go(func() {
			var in, out []int
			for i := range 100 {
				in = append(in, i*worker)
				out = append(out, i*worker+i+1)
			}
			if got := sem.Run(p, in, enough); got.End != api.EndExit || !slices.Equal(got.Out, out) {
				t.Errorf("worker %d: %+v", worker, got)
			}
		})
	}
	group.Wait()
}

// nested is a program whose main calls f, which ends with what is nested so many times, with the expression in its middle.
func nested(count int, middle api.Expr, wrap func(body []api.Stmt) []api.Stmt) api.Prog {
	body := []api.Stmt{{Kind: api.SRet, Es: []api.Expr{middle}}}
	for range count {
		body = wrap(body)
	}
	f := api.Func{Name: "f", Params: []api.Param{{Name: "a", Of: of("int", 0)}}, Has: true, Result: of("int", 0), Body: body}
	same := api.Func{Name: "id", Params: f.Params, Has: true, Result: f.Result, Body: []api.Stmt{{Kind: api.SRet, Es: []api.Expr{{Kind: api.EVar, Name: "a"}}}}}
	return api.Prog{Funcs: []api.Func{mainOf(printed(api.Expr{Kind: api.ECall, Name: "f", Kids: []api.Expr{number(5)}})), f, same}}
}

// nesting is a way to nest, with its steps for each level ahead of the middle and behind it.
type nesting struct {
	wrap          func(body []api.Stmt) []api.Stmt
	ahead, behind int
}

func nestings() []nesting {
	inReturn := func(outer func(e api.Expr) api.Expr) func(body []api.Stmt) []api.Stmt {
		return func(body []api.Stmt) []api.Stmt {
			return []api.Stmt{{Kind: api.SRet, Es: []api.Expr{outer(body[0].Es[0])}}}
		}
	}
	inStatement := func(kind, truth int) func(body []api.Stmt) []api.Stmt {
		return func(body []api.Stmt) []api.Stmt {
			s := api.Stmt{Kind: kind, Es: []api.Expr{{Kind: api.EBool, N: truth}}, Body: body}
			if truth == 0 {
				s.Body, s.Else = nil, body
			}
			return []api.Stmt{s, printed(number(1))}
		}
	}
	return []nesting{
		{inReturn(func(e api.Expr) api.Expr { return api.Expr{Kind: api.ENeg, Kids: []api.Expr{e}} }), 1, 0},
		{inReturn(func(e api.Expr) api.Expr { return api.Expr{Kind: api.EAdd, Kids: []api.Expr{e, number(0)}} }), 1, 1},
		{inReturn(func(e api.Expr) api.Expr { return api.Expr{Kind: api.EAdd, Kids: []api.Expr{number(0), e}} }), 2, 0},
		{inReturn(func(e api.Expr) api.Expr { return api.Expr{Kind: api.ECall, Name: "id", Kids: []api.Expr{e}} }), 1, 2},
		{inStatement(api.SIf, 1), 2, 0}, {inStatement(api.SIf, 0), 2, 0}, {inStatement(api.SWhile, 1), 2, 0},
	}
}

const deep = 1 << 16

// W1: nested more deeply than a text can be.
func TestDeepNesting(t *testing.T) {
	for i, n := range nestings() {
		p := nested(deep, api.Expr{Kind: api.EVar, Name: "a"}, n.wrap)
		steps := 3 + deep*n.ahead + 2 + deep*n.behind
		for fuel, want := range map[int]api.Beh{steps: exits(steps, 5), steps - 1: stops(steps - 1)} {
			if got := sem.Run(p, nil, fuel); !equal(got, want) {
				t.Errorf("what is nested like number %d: %+v; want %+v", i, got, want)
			}
		}
	}
}

// W1: nested so deeply, in each of as many frames as there may be.
func TestDeepNestingInEachFrame(t *testing.T) {
	for _, i := range []int{2, 4} {
		n := nestings()[i]
		p := nested(deep, api.Expr{Kind: api.ECall, Name: "f", Kids: []api.Expr{{Kind: api.EVar, Name: "a"}}}, n.wrap)
		want := traps(api.TrapDeep, 3+39*(deep*n.ahead+3))
		if got := sem.Run(p, nil, math.MaxInt); !equal(got, want) {
			t.Errorf("what is nested like number %d: %+v; want %+v", i, got, want)
		}
	}
}
