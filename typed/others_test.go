package typed_test

import (
	"reflect"
	"slices"
	"strconv"
	"strings"
	"testing"
	"unsafe"

	"runrig/api"
	"runrig/heads"
	"runrig/typed"
)

// everything has each kind of declaration, of statement and of expression.
const everything = `record A { a: int; b: [B]; } record B { } record C { c: [[A]]; } global g: bool; global h: C;
	func f(a: A, b: bool): [C] { let c: [C] = new [C](a.a + read()); c[len(c) - 1] = h; return c; }
	func main() { var x: A; x = new A; x.b = null [B]; while !g && x != null A { if x.a <= 2 * 3 { x.a = -x.a; } else { let y: bool = true; g = y || false == (1 < 2); f(x, y); } } print x.a / 2 % 3; return; }
	func e(c: int): B { return new B; } func p() { p(); }`

// exprsOf and stmtsOf are all expressions and statements within statements, each at its place in the lists.
func exprsOf(list []api.Stmt) []*api.Expr {
	var all []*api.Expr
	for _, s := range stmtsOf(list) {
		all = append(all, withinExprs(s.Es)...)
	}
	return all
}

func withinExprs(list []api.Expr) []*api.Expr {
	var all []*api.Expr
	for i := range list {
		all = append(all, &list[i])
		all = append(all, withinExprs(list[i].Kids)...)
	}
	return all
}

func stmtsOf(list []api.Stmt) []*api.Stmt {
	var all []*api.Stmt
	for i := range list {
		all = append(all, &list[i])
		all = append(all, stmtsOf(list[i].Body)...)
		all = append(all, stmtsOf(list[i].Else)...)
	}
	return all
}

// P8.2: the sample has each kind of statement and of expression.
func TestEverythingIsThere(t *testing.T) {
	var exprs, stmts [api.EOr + 1]bool
	for _, f := range parsed(t, everything).Funcs {
		for _, e := range exprsOf(f.Body) {
			exprs[e.Kind] = true
		}
		for _, s := range stmtsOf(f.Body) {
			stmts[s.Kind] = true
		}
	}
	if slices.Contains(exprs[1:], false) || slices.Contains(stmts[1:api.SDo+1], false) {
		t.Errorf("not each kind is there: %v, %v", exprs, stmts)
	}
}

// clutterExpr sets all fields that an expression of its kind does not use.
func clutterExpr(e *api.Expr) {
	e.Type, e.Ref = api.Type{Base: api.TRec, Rec: 7, Dims: 2}, -77
	switch e.Kind {
	case api.EInt, api.EBool:
		e.Name, e.Of = "clutter", of("clutter", -1)
	case api.EVar, api.EField, api.ECall:
		e.N, e.Of = -2, of("int", 99)
	case api.ENull, api.ENew, api.EMake:
		e.N, e.Name = 2, "x"
	default:
		e.N, e.Name, e.Of = 1, "", of("A", 3)
	}
}

// clutterStmt sets all fields that a statement of its kind does not use.
func clutterStmt(s *api.Stmt) {
	s.Ref = 99
	junk := []api.Stmt{{Kind: 99, Es: []api.Expr{{Kind: -1}}}, {Kind: api.SVar, Name: "junk", Of: of("int", 0)}}
	if s.Kind != api.SVar && s.Kind != api.SLet {
		s.Of = of("X", 17)
		if s.Kind != api.SSet {
			s.Name = "clutter"
		}
	}
	if s.Kind != api.SIf {
		s.Else = junk
		if s.Kind != api.SWhile {
			s.Body = junk
		}
	}
}

func clutter(p *api.Prog) {
	for i := range p.Funcs {
		f := &p.Funcs[i]
		if !f.Has {
			f.Result = of("X", -3)
		}
		for _, e := range exprsOf(f.Body) {
			clutterExpr(e)
		}
		for _, s := range stmtsOf(f.Body) {
			clutterStmt(s)
		}
	}
}

// P8.2: what a kind does not use is zero in the result, and Type and Ref are set anew, whatever they were.
func TestClutter(t *testing.T) {
	p := parsed(t, everything)
	want := fitting(t, p)
	for i, f := range p.Funcs {
		if !slices.EqualFunc(stripped(want.Bodies[i].Code), f.Body, equalStmts) {
			t.Errorf("not all of %+v is taken over; there is %+v", f, want.Bodies[i])
		}
	}
	clutter(&p)
	checkTyped(t, p, want)
	checkBodyRefused(t, "print i;print y;", 14)
	q := parsed(t, "func main(){print 1;return 2;}")
	clutter(&q)
	checkRefused(t, q, 20)
}

// again is a program with the statements that Check has returned for it.
func again(p api.Prog, checked api.Typed) api.Prog {
	p.Funcs = slices.Clone(p.Funcs)
	for i := range p.Funcs {
		p.Funcs[i].Body = checked.Bodies[i].Code
	}
	return p
}

// P8.3: the returned statements fit again, with the same result.
func TestAgain(t *testing.T) {
	for _, s := range []string{
		everything, "func main(){}", "global x:int;func main(){x=1;if true{let x:bool=x<2;}x=false;}", "func main(){if true{}else{}while false{}return;}",
		"global a:bool;func main(){a=true;}func f(a:int,b:[int]){a=b[a];let c:int=a;b[c]=1;}", "record b{}record a{c:int;a:a;}global b:int;global a:a;func b(){}func a(a:a):a{return a;}func main(){a=a(a);b=a.c;}",
	} {
		p := parsed(t, s)
		want := fitting(t, p)
		checkTyped(t, again(p, want), want)
	}
}

// P8.2: the heads are those of chapter 7.
func TestHeads(t *testing.T) {
	for _, s := range []string{everything, "func f(){}record R{}func main(){}", "func main(){}"} {
		p := parsed(t, s)
		want, _ := heads.Make(p)
		if got := fitting(t, p); !equalHeads(got.Heads, want) || len(got.Bodies) != len(p.Funcs) {
			t.Errorf("%+v; want %+v and %d bodies", got, want, len(p.Funcs))
		}
	}
}

// parts are all numbers, texts, bools and lists within a value.
func parts(v reflect.Value, do func(v reflect.Value)) {
	switch v.Kind() {
	case reflect.Struct:
		for i := range v.NumField() {
			parts(v.Field(i), do)
		}
		return
	case reflect.Slice:
		for i := range v.Len() {
			parts(v.Index(i), do)
		}
	}
	do(v)
}

// span is a piece of memory.
type span struct {
	from, to uintptr
	list     bool
}

func (a span) meets(b span) bool { return a.from < b.to && b.from < a.to }

// spans are the memory of all texts and lists within a value, of the latter with their capacity.
func spans(v any) []span {
	var list []span
	parts(reflect.ValueOf(v), func(v reflect.Value) {
		switch v.Kind() {
		case reflect.String:
			from := uintptr(unsafe.Pointer(unsafe.StringData(v.String())))
			list = append(list, span{from, from + uintptr(v.Len()), false})
		case reflect.Slice:
			list = append(list, span{v.Pointer(), v.Pointer() + uintptr(v.Cap())*v.Type().Elem().Size(), true})
		}
	})
	return list
}

// W6: what is returned shares no memory with the program, nor with another result, nor do two of its lists.
func TestResultsAreNew(t *testing.T) {
	p := parsed(t, everything)
	first, second := fitting(t, p), fitting(t, p)
	if len(first.Bodies) != 4 || !equalTyped(first, second) {
		t.Fatalf("%+v and %+v", first, second)
	}
	outside := append(spans(p), spans(second)...)
	inside := spans(first)
	for i, a := range inside {
		for _, b := range outside {
			if a.meets(b) {
				t.Errorf("a part of %+v is shared", first)
			}
		}
		for _, b := range inside[:i] {
			if a.list && b.list && a.meets(b) {
				t.Errorf("two lists of %+v share memory", first)
			}
		}
	}
}

// widened has each list of a program lie in memory that goes on behind it.
func widened(p *api.Prog) {
	parts(reflect.ValueOf(p).Elem(), func(v reflect.Value) {
		if v.Kind() == reflect.Slice {
			wide := reflect.MakeSlice(v.Type(), v.Len()+2, v.Len()+2)
			reflect.Copy(wide, v)
			v.Set(wide.Slice(0, v.Len()))
		}
	})
}

// behind tells whether a list of a program has anything but zero values in the memory behind it.
func behind(p *api.Prog) bool {
	found := false
	parts(reflect.ValueOf(p).Elem(), func(v reflect.Value) {
		if v.Kind() == reflect.Slice {
			for i := v.Len(); i < v.Cap(); i++ {
				found = found || !v.Slice(0, v.Cap()).Index(i).IsZero()
			}
		}
	})
	return found
}

// W6: arguments stay as they were, and so does the memory behind their lists; also where fields are set that no kind uses.
func TestArgumentsStay(t *testing.T) {
	for _, s := range []string{everything, everything + "record A{}", everything + "func q(){let a:int=1;a=a+true;}", "func main(){var x:int;var x:int;}", ""} {
		for _, change := range []func(p *api.Prog){widened, clutter, func(p *api.Prog) { clutter(p); widened(p) }} {
			p, want := parsed(t, s), parsed(t, s)
			change(&p)
			change(&want)
			typed.Check(p)
			if !reflect.DeepEqual(p, want) || behind(&p) {
				t.Errorf("%+v was changed to %+v", want, p)
			}
		}
	}
}

// W2, W3, W7: a result depends on the program alone, whatever was checked before, and stays as it is whatever becomes of it.
func TestResultsStay(t *testing.T) {
	p := parsed(t, everything)
	got, want := fitting(t, p), fitting(t, parsed(t, everything))
	parts(reflect.ValueOf(&p).Elem(), func(v reflect.Value) { v.SetZero() })
	checkRefused(t, p, 0)
	checkTextRefused(t, everything+"func q(){print y;}", len(everything)+15)
	if !equalTyped(got, want) {
		t.Errorf("%+v was changed to %+v", want, got)
	}
	checkTyped(t, parsed(t, everything), want)
}

// emptied has each list that is nil be an empty one instead.
func emptied(p *api.Prog) {
	parts(reflect.ValueOf(p).Elem(), func(v reflect.Value) {
		if v.Kind() == reflect.Slice && v.IsNil() {
			v.Set(reflect.MakeSlice(v.Type(), 0, 2))
		}
	})
}

// W5: empty lists are like lists that are nil.
func TestEmptyLists(t *testing.T) {
	p := parsed(t, everything)
	emptied(&p)
	checkTyped(t, p, fitting(t, parsed(t, everything)))
	p = parsed(t, everything+"func q(){print 1;print g;}")
	emptied(&p)
	checkRefused(t, p, len(everything)+17)
}

// nested is a program of which main consists of a statement in so many others, or prints an expression in so many others.
func nested(count int, wrap func(f *api.Func)) api.Prog {
	main := api.Func{Name: "main", Body: []api.Stmt{{Kind: api.SPrint, Es: []api.Expr{{Kind: api.EVar, Name: "x", At: 9}}}}}
	for range count {
		wrap(&main)
	}
	f := api.Func{Name: "f", Params: []api.Param{{Name: "a", Of: of("int", 0)}}, Has: true, Result: of("int", 0)}
	return api.Prog{Globals: []api.Param{{Name: "x", Of: of("int", 0)}}, Funcs: []api.Func{main, f}}
}

// W1: nested more deeply than a text can be.
func TestDeepNesting(t *testing.T) {
	const depth = 1 << 16
	condition := []api.Expr{{Kind: api.EBool}}
	expr := func(f *api.Func) *api.Expr { return &f.Body[0].Es[0] }
	for i, wrap := range []func(f *api.Func){
		func(f *api.Func) { *expr(f) = api.Expr{Kind: api.ENeg, Kids: []api.Expr{*expr(f)}} },
		func(f *api.Func) { *expr(f) = api.Expr{Kind: api.EAdd, Kids: []api.Expr{*expr(f), {Kind: api.EInt}}} },
		func(f *api.Func) { *expr(f) = api.Expr{Kind: api.ESub, Kids: []api.Expr{{Kind: api.EInt}, *expr(f)}} },
		func(f *api.Func) { *expr(f) = api.Expr{Kind: api.ECall, Name: "f", Kids: []api.Expr{*expr(f)}} },
		func(f *api.Func) { f.Body = []api.Stmt{{Kind: api.SIf, Es: condition, Body: f.Body}} },
		func(f *api.Func) { f.Body = []api.Stmt{{Kind: api.SIf, Es: condition, Else: f.Body}} },
		func(f *api.Func) { f.Body = []api.Stmt{{Kind: api.SWhile, Es: condition, Body: f.Body}} },
	} {
		p := nested(depth, wrap)
		got := fitting(t, p)
		if len(got.Bodies) != 2 || !slices.EqualFunc(stripped(got.Bodies[0].Code), p.Funcs[0].Body, equalStmts) {
			t.Errorf("what is nested like number %d is not taken over", i)
		}
		p.Globals[0].Name = "y"
		if _, fault := typed.Check(p); fault != (api.Fault{E: api.ErrType, At: 9}) {
			t.Errorf("what is nested like number %d is refused by %v", i, fault)
		}
	}
}

// many is so much of everything, more than a text can have: each record, field, global, function and local of its own name, and
// a use of each of them.
func many(count int) api.Prog {
	main := api.Func{Name: "main"}
	var p api.Prog
	call := api.Expr{Kind: api.ECall, Name: "all"}
	for i := range count {
		name := strconv.Itoa(i)
		variable := api.Expr{Kind: api.EVar, Name: name, At: 6 * i}
		field := api.Param{Name: name, Of: of(name, 0)}
		p.Recs = append(p.Recs, api.Rec{Name: name, Fields: []api.Param{field}})
		p.Globals = append(p.Globals, field)
		p.Funcs = append(p.Funcs, api.Func{Name: name, Params: []api.Param{field}, Has: true, Result: of(name, 0)})
		main.Body = append(main.Body,
			api.Stmt{Kind: api.SLet, Name: name, Of: of(name, 0), Es: []api.Expr{{Kind: api.ECall, Name: name, Kids: []api.Expr{variable}, At: 6*i + 1}}, At: 6*i + 2},
			api.Stmt{Kind: api.SPut, Es: []api.Expr{{Kind: api.EField, Name: name, Kids: []api.Expr{variable}, At: 6*i + 3}, {Kind: api.ENew, Of: of(name, 0), At: 6*i + 4}}, At: 6*i + 5})
		call.Kids = append(call.Kids, variable)
	}
	main.Body = append(main.Body, api.Stmt{Kind: api.SDo, Es: []api.Expr{call}})
	p.Recs = append(p.Recs, api.Rec{Name: "all", Fields: p.Globals})
	p.Funcs = append(p.Funcs, api.Func{Name: "all", Params: p.Globals}, main)
	return p
}

// W1: lists far longer than those of a text.
func TestLongLists(t *testing.T) {
	const count = 50000
	p := many(count)
	got := fitting(t, p)
	if len(got.Bodies) != count+2 || len(got.Bodies[count+1].Vars) != count || len(got.Bodies[count].Vars) != count {
		t.Fatalf("%d bodies", len(got.Bodies))
	}
	code := got.Bodies[count+1].Code
	for _, i := range []int{0, 1, count / 2, count - 1} {
		rec := api.Type{Base: api.TRec, Rec: i}
		let, put := code[2*i], code[2*i+1]
		call := let.Es[0]
		if let.Ref != i || call.Ref != i || call.Type != rec || call.Kids[0].Ref != -1-i || put.Es[0].Type != rec || put.Es[0].Kids[0].Ref != i || put.Es[1].Type != rec || code[2*count].Es[0].Kids[i].Ref != i {
			t.Errorf("not all names at %d are found", i)
		}
	}
	main := p.Funcs[count+1].Body
	main[2*count-1].Es[1].Of.Name = "1"
	checkFaultOf(t, p, 6*(count-1)+5)
	main[2*count-1].Es[0].Name = "X"
	checkFaultOf(t, p, 6*(count-1)+3)
	main[2*count-2].Es[0].Name = "X"
	checkFaultOf(t, p, 6*(count-1)+1)
	main[2*count-2].Name = "1"
	checkFaultOf(t, p, 6*(count-1)+1)
	main[2*count-4].Of.Name = "X"
	checkFaultOf(t, p, 6*(count-2)+2)
}

// checkFaultOf is checkRefused for a program that is too long to be shown.
func checkFaultOf(t *testing.T, p api.Prog, at int) {
	t.Helper()
	got, fault := typed.Check(p)
	if want := (api.Fault{E: api.ErrType, At: at}); fault != want || !reflect.DeepEqual(got, api.Typed{}) {
		t.Errorf("%v; want %v", fault, want)
	}
}

// W1: names of any length and with any bytes, also where two of them differ only at their ends.
func TestLongNames(t *testing.T) {
	long := strings.Repeat("n\x00\xff", 1<<16)
	p := api.Prog{
		Recs:    []api.Rec{{Name: long + "a", Fields: []api.Param{{Name: long + "a", Of: of(long+"b", 0)}, {Name: long + "b", Of: of(long+"a", 0)}}}, {Name: long + "b"}},
		Globals: []api.Param{{Name: long + "a", Of: of(long+"a", 0)}, {Name: long + "b", Of: of(long+"b", 0)}},
		Funcs:   []api.Func{{Name: long + "a", Has: true, Result: of(long+"a", 0)}, {Name: long + "b", Has: true, Result: of(long+"b", 0)}, {Name: "main"}},
	}
	named := func(kind int, name string, kids ...api.Expr) api.Expr {
		return api.Expr{Kind: kind, Name: name, Kids: kids, At: exprAt}
	}
	p.Funcs[2].Body = []api.Stmt{
		{Kind: api.SSet, Name: long + "b", Es: []api.Expr{named(api.EField, long+"a", named(api.ECall, long+"a"))}}, {Kind: api.SLet, Name: long + "b", Of: of(long+"a", 0), Es: []api.Expr{named(api.EField, long+"b", named(api.EVar, long+"a"))}, At: stmtAt},
		{Kind: api.SSet, Name: long + "b", Es: []api.Expr{{Kind: api.ENew, Of: of(long+"a", 0)}}, At: stmtAt + 1},
	}
	got := fitting(t, p)
	if len(got.Bodies) != 3 {
		return
	}
	code := got.Bodies[2].Code
	if code[0].Ref != -2 || code[0].Es[0].Ref != 0 || code[0].Es[0].Type.Rec != 1 || code[1].Ref != 0 || code[1].Es[0].Ref != 1 || code[2].Ref != 0 || code[2].Name != long+"b" {
		t.Error("long names are not told from each other")
	}
	p.Funcs[2].Body[2].Es[0].Of.Name = long + "b"
	checkFaultOf(t, p, stmtAt+1)
	p.Funcs[2].Body[1].Of.Name = long + "c"
	checkFaultOf(t, p, stmtAt)
	p.Funcs[2].Body[0].Es[0].Kids[0].Name = long
	checkFaultOf(t, p, exprAt)
}

// P8.1: names that no text has are names like any others, also none at all and those of types.
func TestOtherNames(t *testing.T) {
	for _, name := range []string{"", "int", "bool", "main", "1", "a b", "\x00", "\xff", "record"} {
		integer := of("int", 0)
		variable := api.Expr{Kind: api.EVar, Name: name}
		p := api.Prog{
			Recs: []api.Rec{{Name: name, Fields: []api.Param{{Name: name, Of: integer}}}, {Name: "R", Fields: []api.Param{{Name: name, Of: integer}}}}, Globals: []api.Param{{Name: name, Of: of("R", 0)}},
			Funcs: []api.Func{{Name: "main", Body: []api.Stmt{
				{Kind: api.SLet, Name: name, Of: integer, Es: []api.Expr{{Kind: api.EField, Name: name, Kids: []api.Expr{variable}}}}, {Kind: api.SPrint, Es: []api.Expr{variable}}, {Kind: api.SPrint, Es: []api.Expr{{Kind: api.ENew, Of: of(name, 0), At: exprAt}}, At: stmtAt},
			}}},
		}
		// The record of that name is no int; and of a record named int there is no object at all.
		at := stmtAt
		if name == "int" || name == "bool" {
			at = exprAt
		}
		checkRefused(t, p, at)
		p.Funcs[0].Body = p.Funcs[0].Body[:2]
		got := fitting(t, p)
		if len(got.Bodies) == 1 && (got.Bodies[0].Code[0].Es[0].Kids[0].Ref != -1 || got.Bodies[0].Code[1].Es[0].Type != (api.Type{Base: api.TInt})) {
			t.Errorf("%q is not a name like others: %+v", name, got)
		}
	}
}
