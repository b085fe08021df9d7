package show_test

import (
	"math"
	"reflect"
	"slices"
	"strings"
	"testing"
	"unsafe"

	"runrig/api"
	"runrig/show"
)

// inBlock is a program of one function with these statements.
func inBlock(list ...api.Stmt) api.Prog { return api.Prog{Funcs: []api.Func{{Body: list}}} }

// kinds are all kinds of expressions and of statements, and many that do not exist.
func kinds() []int {
	list := []int{math.MinInt, math.MinInt32, 1 << 8, 1 << 16, 1 << 32, math.MaxInt}
	for kind := -3; kind < 40; kind++ {
		list = append(list, kind)
	}
	return list
}

// P6.1, P6.2: expressions of kinds that do not exist, and with too few or too many Kids, which are of all kinds themselves.
func TestStrangeExpressions(t *testing.T) {
	for _, kind := range kinds() {
		for count := range 5 {
			for _, inner := range kinds() {
				e := api.Expr{Kind: kind, N: kind, Of: api.Of{Dims: inner}}
				for i := range count {
					e.Kids = append(e.Kids, api.Expr{Kind: inner + i, Kids: make([]api.Expr, i)})
				}
				show.Expr(e)
				show.Print(inBlock(api.Stmt{Kind: api.SPrint, Es: []api.Expr{e}}))
			}
		}
	}
}

// P6.2: statements of kinds that do not exist, with too few or too many Es, with a Body and an Else where none belongs, and
// without a name.
func TestStrangeStatements(t *testing.T) {
	for _, kind := range kinds() {
		for _, inner := range kinds() {
			for count := range 4 {
				s := api.Stmt{Kind: kind, Es: make([]api.Expr, count)}
				show.Print(inBlock(s))
				s.Body = []api.Stmt{{Kind: inner, Es: make([]api.Expr, count)}, {}}
				show.Print(inBlock(s, s))
				s.Else = s.Body
				show.Print(inBlock(s, api.Stmt{Kind: inner, Body: []api.Stmt{s}, Else: []api.Stmt{s, s}}))
			}
		}
	}
}

// P6.1: numbers of dimensions that no type has.
func TestStrangeTypes(t *testing.T) {
	for _, dims := range []int{math.MinInt, -1 << 40, -1, api.MaxDims + 1, 1 << 20, 1 << 32, 1 << 60, math.MaxInt - 1, math.MaxInt} {
		of := api.Of{Name: "a", Dims: dims}
		show.Type(of)
		show.Type(api.Of{Dims: dims})
		for _, kind := range []int{api.ENull, api.ENew, api.EMake} {
			show.Expr(api.Expr{Kind: kind, Of: of})
		}
		list := []api.Param{{Name: "a", Of: of}}
		show.Print(api.Prog{Recs: []api.Rec{{Fields: list}}, Globals: list, Funcs: []api.Func{{Params: list, Has: true, Result: of, Body: []api.Stmt{{Kind: api.SVar, Of: of}}}}})
	}
}

// P6.1, P6.2: empty names everywhere, and names and lists of any bytes and any length.
func TestStrangeNames(t *testing.T) {
	for _, name := range []string{"", "\x00", "\xff\xfe", "(", "func", "\n", "no name", "\u00e4", strings.Repeat("long", 1<<16)} {
		of := api.Of{Name: name, Dims: 1}
		list := []api.Param{{Name: name, Of: of}, {}}
		show.Type(of)
		show.Print(api.Prog{
			Recs: []api.Rec{{Name: name, Fields: list}, {}}, Globals: list,
			Funcs: []api.Func{{}, {Name: name, Params: list, Result: of, Body: []api.Stmt{{Kind: api.SVar, Name: name, Of: of}, {Kind: api.SSet, Name: name}}}},
		})
		for _, kind := range kinds() {
			show.Expr(api.Expr{Kind: kind, Name: name, Of: of})
		}
	}
	show.Print(api.Prog{Recs: make([]api.Rec, 10000), Globals: make([]api.Param, 10000), Funcs: make([]api.Func, 10000)})
	show.Print(api.Prog{Recs: []api.Rec{{Fields: make([]api.Param, 10000)}}, Funcs: []api.Func{{Params: make([]api.Param, 10000), Body: make([]api.Stmt, 10000)}}})
	show.Expr(api.Expr{Kind: api.ECall, Kids: make([]api.Expr, 10000)})
}

// deepest is how many parts the document's bounds allow to lie within one another, less some room for what is around them.
const deepest = 1<<16 - 8

// P6.1: what grows into the depth is printed whole, however deep it is.
func TestDeepExpressions(t *testing.T) {
	for _, x := range []struct {
		left, innermost, right string
		grown                  func(e api.Expr) api.Expr
	}{
		{"", "a", " + b", func(e api.Expr) api.Expr { return node(api.EAdd, e, named("b")) }},
		{"", "a", " || b", func(e api.Expr) api.Expr { return node(api.EOr, e, named("b")) }},
		{"", "a", ".f", func(e api.Expr) api.Expr { return field(e, "f") }},
		{"", "a", "[b]", func(e api.Expr) api.Expr { return node(api.EItem, e, named("b")) }},
		{"-", "a", "", func(e api.Expr) api.Expr { return node(api.ENeg, e) }},
		{"f(", "a", ")", func(e api.Expr) api.Expr { return call("f", e) }},
		{"a - (", "b - c", ")", func(e api.Expr) api.Expr { return node(api.ESub, named("a"), e) }},
	} {
		e := parsedExpr(t, x.innermost)
		for range deepest {
			e = x.grown(e)
		}
		want := strings.Repeat(x.left, deepest) + x.innermost + strings.Repeat(x.right, deepest)
		if got := show.Expr(e); got != want {
			t.Errorf("%d times %q and %q: a text of %d bytes, not of %d", deepest, x.left, x.right, len(got), len(want))
		}
	}
}

// P6.2: blocks that lie deeper than in any text.
func TestDeepStatements(t *testing.T) {
	for kind := range api.SDo + 2 {
		for _, grown := range []func(s api.Stmt) api.Stmt{
			func(s api.Stmt) api.Stmt { return api.Stmt{Kind: kind, Body: []api.Stmt{s}} },
			func(s api.Stmt) api.Stmt { return api.Stmt{Kind: kind, Else: []api.Stmt{s}} },
		} {
			s := api.Stmt{Kind: api.SRet}
			for range deepest {
				s = grown(s)
			}
			show.Print(inBlock(s))
		}
	}
}

// everything is a program with each kind of declaration, of statement and of expression.
const everything = `record R { a: int; b: [R]; } record S { } global g: [[R]]; func main() { } func f(a: R, b: [bool]): [int] {
	var x: int; let y: R = new R; x = -1; y.a = x + 2 * read(); y.b[0] = null R; if !b[x] || true && a == y { f(a, b); } else { print len(b); }
	while x < 3 { return new [int](x); } return; }`

// parts are all numbers, texts, bools and lists within a value.
func parts(v reflect.Value, do func(v reflect.Value)) {
	switch v.Kind() {
	case reflect.Struct:
		for i := range v.NumField() {
			parts(v.Field(i), do)
		}
		return
	case reflect.Slice:
		for i := range v.Len() {
			parts(v.Index(i), do)
		}
	}
	do(v)
}

// widened has each list of a program lie in memory that goes on behind it.
func widened(p *api.Prog) {
	parts(reflect.ValueOf(p).Elem(), func(v reflect.Value) {
		if v.Kind() == reflect.Slice {
			wide := reflect.MakeSlice(v.Type(), v.Len()+2, v.Len()+2)
			reflect.Copy(wide, v)
			v.Set(wide.Slice(0, v.Len()))
		}
	})
}

// behind tells whether a list of a program has anything but zero values in the memory behind it.
func behind(p *api.Prog) bool {
	found := false
	parts(reflect.ValueOf(p).Elem(), func(v reflect.Value) {
		if v.Kind() == reflect.Slice {
			for i := v.Len(); i < v.Cap(); i++ {
				found = found || !v.Slice(0, v.Cap()).Index(i).IsZero()
			}
		}
	})
	return found
}

// W6: a program stays as it was, and so does the memory behind its lists.
func TestArgumentsStay(t *testing.T) {
	p, want := parsed(t, everything), parsed(t, everything)
	widened(&p)
	widened(&want)
	show.Print(p)
	for _, f := range p.Funcs {
		for _, s := range f.Body {
			for _, e := range s.Es {
				show.Expr(e)
			}
		}
	}
	if !reflect.DeepEqual(p, want) || behind(&p) {
		t.Errorf("%+v was changed to %+v", want, p)
	}
}

// overlap tells whether two texts share memory.
func overlap(s, text string) bool {
	from, at := uintptr(unsafe.Pointer(unsafe.StringData(text))), uintptr(unsafe.Pointer(unsafe.StringData(s)))
	return at < from+uintptr(len(text)) && from < at+uintptr(len(s))
}

// W6: a text shares no memory with a name, also where it consists of nothing else, nor with another result.
func TestResultsAreNew(t *testing.T) {
	name := strings.Repeat("name", 10)
	for _, answer := range []func() string{
		func() string { return show.Type(api.Of{Name: name}) },
		func() string { return show.Type(api.Of{Name: name, Dims: 1}) },
		func() string { return show.Expr(named(name)) },
		func() string { return show.Expr(node(api.EBool)) },
		func() string { return show.Expr(node(api.ERead)) },
		func() string { return show.Print(inBlock(api.Stmt{Kind: api.SSet, Name: name})) },
	} {
		if first, second := answer(), answer(); first != second || overlap(first, name) || overlap(first, second) {
			t.Errorf("%q and %q share memory or differ", first, second)
		}
	}
}

// W2, W7: a text depends on the program alone, and stays as it is whatever becomes of the program.
func TestResultsStay(t *testing.T) {
	p := parsed(t, everything)
	text := show.Print(p)
	kept := string(slices.Clone([]byte(text)))
	parts(reflect.ValueOf(&p).Elem(), func(v reflect.Value) { v.SetZero() })
	if show.Print(p) != "" || text != kept || show.Print(parsed(t, everything)) != kept {
		t.Errorf("%q was changed to %q", kept, text)
	}
}
