package typed_test

import (
	"reflect"
	"slices"
	"strconv"
	"strings"
	"testing"

	"runrig/api"
	"runrig/prog"
	"runrig/show"
	"runrig/typed"
)

// equalExprs, equalStmts and equalTyped hold all fields against each other; nil lists are empty ones (W5).
func equalExprs(a, b api.Expr) bool {
	kids := slices.EqualFunc(a.Kids, b.Kids, equalExprs)
	a.Kids, b.Kids = nil, nil
	return kids && reflect.DeepEqual(a, b)
}

func equalStmts(a, b api.Stmt) bool {
	lists := slices.EqualFunc(a.Es, b.Es, equalExprs) && slices.EqualFunc(a.Body, b.Body, equalStmts) && slices.EqualFunc(a.Else, b.Else, equalStmts)
	return lists && a.Kind == b.Kind && a.Name == b.Name && a.Of == b.Of && a.At == b.At && a.Ref == b.Ref
}

func equalBodies(a, b api.Body) bool {
	return slices.Equal(a.Vars, b.Vars) && slices.EqualFunc(a.Code, b.Code, equalStmts) && a.At == b.At
}

func equalHeads(a, b api.Heads) bool {
	return slices.EqualFunc(a.Recs, b.Recs, func(a, b api.Shape) bool { return a.Name == b.Name && slices.Equal(a.Fields, b.Fields) }) &&
		slices.Equal(a.Globals, b.Globals) && slices.EqualFunc(a.Sigs, b.Sigs, equalSigs) && a.Main == b.Main
}

func equalSigs(a, b api.Sig) bool {
	return a.Name == b.Name && slices.Equal(a.Params, b.Params) && a.Has == b.Has && a.Result == b.Result
}

func equalTyped(a, b api.Typed) bool {
	return equalHeads(a.Heads, b.Heads) && slices.EqualFunc(a.Bodies, b.Bodies, equalBodies)
}

func checkTyped(t *testing.T, p api.Prog, want api.Typed) {
	t.Helper()
	got, fault := typed.Check(p)
	if fault != (api.Fault{}) || !equalTyped(got, want) {
		t.Errorf("Check(%+v) = %+v, %v; want %+v", p, got, fault, want)
	}
}

// fitting is the result of a program that fits, which is not shown because it may be long.
func fitting(t *testing.T, p api.Prog) api.Typed {
	t.Helper()
	got, fault := typed.Check(p)
	if fault != (api.Fault{}) {
		t.Errorf("Check(%+v) tells %v", p, fault)
	}
	return got
}

// checkRefused wants ErrType at this place, and nothing beside it (W3).
func checkRefused(t *testing.T, p api.Prog, at int) {
	t.Helper()
	got, fault := typed.Check(p)
	if want := (api.Fault{E: api.ErrType, At: at}); fault != want || !reflect.DeepEqual(got, api.Typed{}) {
		t.Errorf("Check(%+v) = %+v, %v; want %v", p, got, fault, want)
	}
}

// parsed is the program of a text that is one.
func parsed(t *testing.T, s string) api.Prog {
	t.Helper()
	p, fault := prog.Parse(s)
	if fault != (api.Fault{}) {
		t.Fatalf("Parse(%q): %v", s, fault)
	}
	return p
}

// context are declarations for the texts of bodies.
const context = `record R { n: int; r: R; b: bool; s: [S]; } record S { n: bool; m: [[R]]; } global g: [[R]]; global i: int; global x: bool;
	func f(a: int, b: R): R { return b; } func p() { } func q(): [int] { return null [int]; } `

// inMain is a program with a text as the body of main, and where that text begins.
func inMain(body string) (string, int) {
	begin := context + "func main() {"
	return begin + body + "}", len(begin)
}

const mainIndex = 3

// shownType is a type as it is written, where the records are R and S.
func shownType(t api.Type) string {
	if t == (api.Type{}) {
		return "-"
	}
	name := []string{"?", "int", "bool", "R"}[t.Base]
	if t.Rec == 1 {
		name = "S"
	}
	return show.Type(api.Of{Name: name, Dims: t.Dims})
}

// shown is an expression without its Kids, with its Ref, if it is not 0, and its Type.
func shown(e api.Expr) string {
	kids := len(e.Kids)
	e.Kids = slices.Repeat([]api.Expr{{Kind: api.EVar, Name: "_"}}, kids)
	s := show.Expr(e)
	if e.Ref != 0 {
		s += "#" + strconv.Itoa(e.Ref)
	}
	return s + ":" + shownType(e.Type)
}

// shownAll are all expressions within an expression, from the leaves on.
func shownAll(e api.Expr) []string {
	var list []string
	for _, kid := range e.Kids {
		list = append(list, shownAll(kid)...)
	}
	return append(list, shown(e))
}

// shownBlock is what Check adds to statements: the Ref of each one that has a Name, and what it adds to their expressions.
func shownBlock(list []api.Stmt) []string {
	var all []string
	for _, s := range list {
		if s.Name != "" {
			all = append(all, s.Name+"#"+strconv.Itoa(s.Ref))
		}
		for _, e := range s.Es {
			all = append(all, shownAll(e)...)
		}
		all = append(all, shownBlock(s.Body)...)
		all = append(all, shownBlock(s.Else)...)
	}
	return all
}

// stripped are statements as they were ahead of Check.
func stripped(list []api.Stmt) []api.Stmt {
	list = slices.Clone(list)
	for i := range list {
		list[i].Ref = 0
		list[i].Es = strippedExprs(list[i].Es)
		list[i].Body, list[i].Else = stripped(list[i].Body), stripped(list[i].Else)
	}
	return list
}

func strippedExprs(list []api.Expr) []api.Expr {
	list = slices.Clone(list)
	for i := range list {
		list[i].Type, list[i].Ref = api.Type{}, 0
		list[i].Kids = strippedExprs(list[i].Kids)
	}
	return list
}

func checkShown(t *testing.T, b api.Body, want string) {
	t.Helper()
	if got := strings.Join(shownBlock(b.Code), " "); got != want {
		t.Errorf("%+v is shown as\n%s; want\n%s", b, got, want)
	}
}

// checkBody wants the text to fit as the body of main, with these results, and all else taken over.
func checkBody(t *testing.T, body, want string) {
	t.Helper()
	s, _ := inMain(body)
	p := parsed(t, s)
	got := fitting(t, p)
	if len(got.Bodies) != len(p.Funcs) {
		return
	}
	checkShown(t, got.Bodies[mainIndex], want)
	for i, f := range p.Funcs {
		if b := got.Bodies[i]; !slices.EqualFunc(stripped(b.Code), f.Body, equalStmts) || b.At != f.At {
			t.Errorf("%q: not all of %+v is taken over; there is %+v", body, f, b)
		}
	}
}

// checkBodyRefused wants ErrType at an offset of the text, as the body of main.
func checkBodyRefused(t *testing.T, body string, at int) {
	t.Helper()
	s, begin := inMain(body)
	checkRefused(t, parsed(t, s), begin+at)
}

func checkTextRefused(t *testing.T, s string, at int) {
	t.Helper()
	checkRefused(t, parsed(t, s), at)
}

// P8.2: a whole result.
func TestWholeResult(t *testing.T) {
	rec := func(dims int) api.Type { return api.Type{Base: api.TRec, Dims: dims} }
	integer := api.Type{Base: api.TInt}
	checkTyped(t, parsed(t, "global g:[R];func main(){let a:int=-1;g[a].n=f(a);}record R{n:int;}func f(b:int):int{var c:R;return b;}"), api.Typed{
		Heads: api.Heads{
			Recs: []api.Shape{{Name: "R", Fields: []api.Field{{Name: "n", Type: integer}}}}, Globals: []api.Field{{Name: "g", Type: rec(1)}},
			Sigs: []api.Sig{{Name: "main"}, {Name: "f", Params: []api.Field{{Name: "b", Type: integer}}, Has: true, Result: integer}}, Main: 0,
		},
		Bodies: []api.Body{
			{At: 18, Vars: []api.Field{{Name: "a", Type: integer}}, Code: []api.Stmt{
				{Kind: api.SLet, Name: "a", Of: api.Of{Name: "int"}, At: 25, Es: []api.Expr{
					{Kind: api.ENeg, At: 35, Type: integer, Kids: []api.Expr{{Kind: api.EInt, N: 1, At: 36, Type: integer}}},
				}},
				{Kind: api.SPut, At: 38, Es: []api.Expr{
					{Kind: api.EField, Name: "n", At: 42, Type: integer, Kids: []api.Expr{
						{Kind: api.EItem, At: 39, Type: rec(0), Kids: []api.Expr{{Kind: api.EVar, Name: "g", At: 38, Type: rec(1), Ref: -1}, {Kind: api.EVar, Name: "a", At: 40, Type: integer}}},
					}},
					{Kind: api.ECall, Name: "f", At: 45, Type: integer, Ref: 1, Kids: []api.Expr{{Kind: api.EVar, Name: "a", At: 47, Type: integer}}},
				}},
			}},
			{At: 72, Vars: []api.Field{{Name: "b", Type: integer}, {Name: "c", Type: rec(0)}}, Code: []api.Stmt{
				{Kind: api.SVar, Name: "c", Of: api.Of{Name: "R"}, At: 85, Ref: 1},
				{Kind: api.SRet, At: 93, Es: []api.Expr{{Kind: api.EVar, Name: "b", At: 100, Type: integer}}},
			}},
		},
	})
	checkTyped(t, api.Prog{Funcs: []api.Func{{Name: "main", At: 7}}}, api.Typed{Heads: api.Heads{Sigs: []api.Sig{{Name: "main"}}}, Bodies: []api.Body{{At: 7}}})
}

// P8.1: the examples of the document.
func TestExamples(t *testing.T) {
	checkTextRefused(t, "func main(){let x: int = x;}", 25)
	checkTextRefused(t, "func main(){print true;}", 12)
}
