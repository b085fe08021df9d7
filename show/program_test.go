package show_test

import (
	"slices"
	"strconv"
	"strings"
	"testing"

	"runrig/api"
	"runrig/prog"
	"runrig/show"
)

// parsed is the program of a text that is one.
func parsed(t *testing.T, s string) api.Prog {
	t.Helper()
	p, fault := prog.Parse(s)
	if fault != (api.Fault{}) {
		t.Fatalf("Parse(%q): %v", s, fault)
	}
	return p
}

// lines are a text of these lines.
func lines(list ...string) string {
	if len(list) == 0 {
		return ""
	}
	return strings.Join(list, "\n") + "\n"
}

func checkPrinted(t *testing.T, p api.Prog, want ...string) {
	t.Helper()
	if got := show.Print(p); got != lines(want...) {
		t.Errorf("Print(%+v) =\n%s; want\n%s", p, got, lines(want...))
	}
}

// checkProgram wants the program of a text to be printed as these lines.
func checkProgram(t *testing.T, s string, want ...string) {
	t.Helper()
	checkPrinted(t, parsed(t, s), want...)
}

// checkBody wants the statements of a text, within a function, to be printed as these lines.
func checkBody(t *testing.T, s string, want ...string) {
	t.Helper()
	checkProgram(t, "func f(){"+s+"}", slices.Concat([]string{"func f() {"}, want, []string{"}"})...)
}

func param(name, of string, dims int) api.Param {
	return api.Param{Name: name, Of: api.Of{Name: of, Dims: dims}}
}

// P6.2: a program without declarations has no line.
func TestNothing(t *testing.T) {
	checkPrinted(t, api.Prog{})
	checkPrinted(t, api.Prog{Recs: []api.Rec{}, Globals: []api.Param{}, Funcs: []api.Func{}})
	checkProgram(t, " // nothing\n")
}

// P6.2: records, from none to MaxFields fields.
func TestRecords(t *testing.T) {
	checkPrinted(t, api.Prog{Recs: []api.Rec{{Name: "R", At: 7}}}, "record R {", "}")
	checkPrinted(t, api.Prog{Recs: []api.Rec{{Name: "R", Fields: []api.Param{}}, {Name: "S", Fields: []api.Param{param("a", "int", 0)}}}},
		"record R {", "}", "record S {", "  a: int;", "}")
	checkProgram(t, "record abc{a:bool;b:[[[R]]];R:[S];}record S{}", "record abc {", "  a: bool;", "  b: [[[R]]];", "  R: [S];", "}", "record S {", "}")
	source, want := "record R{", []string{"record R {"}
	for i := range api.MaxFields {
		source += "a" + strconv.Itoa(i) + ":[b];"
		want = append(want, "  a"+strconv.Itoa(i)+": [b];")
	}
	checkProgram(t, source+"}", append(want, "}")...)
}

// P6.2: global variables of each type.
func TestGlobals(t *testing.T) {
	checkPrinted(t, api.Prog{Globals: []api.Param{param("g", "int", 0)}}, "global g: int;")
	checkProgram(t, "global b:bool;global a:[[[R]]];global b:[int];global c:R;", "global b: bool;", "global a: [[[R]]];", "global b: [int];", "global c: R;")
}

// P6.2: functions without and with parameters, a result and a body.
func TestFunctions(t *testing.T) {
	checkPrinted(t, api.Prog{Funcs: []api.Func{{Name: "main"}}}, "func main() {", "}")
	checkPrinted(t, api.Prog{Funcs: []api.Func{{Name: "f", Has: true, Result: api.Of{Name: "R", Dims: 1}, Params: []api.Param{param("a", "int", 0)}}}}, "func f(a: int): [R] {", "}")
	for _, x := range [][2]string{
		{"func f ( )", "func f()"}, {"func f():int", "func f(): int"}, {"func f():[[[R]]]", "func f(): [[[R]]]"}, {"func f(a:int)", "func f(a: int)"}, {"func f(a:[R]):R", "func f(a: [R]): R"},
		{"func f(a:int,b:bool)", "func f(a: int, b: bool)"}, {"func f(a:R,b:[[S]],c:int):bool", "func f(a: R, b: [[S]], c: int): bool"},
		{"func f(a:b,c:d,e:f,g:h,i:j,k:l):m", "func f(a: b, c: d, e: f, g: h, i: j, k: l): m"},
	} {
		checkProgram(t, x[0]+"{}", x[1]+" {", "}")
		checkProgram(t, x[0]+"{return;}"+x[0]+"{}", x[1]+" {", "  return;", "}", x[1]+" {", "}")
	}
}

// P6.2: each kind of statement on lines of its own.
func TestEachStatement(t *testing.T) {
	checkBody(t, "")
	checkBody(t, "var x:int;", "  var x: int;")
	checkBody(t, "var y:[[[R]]];", "  var y: [[[R]]];")
	checkBody(t, "let x:int=1;", "  let x: int = 1;")
	checkBody(t, "let x:[R]=new[R]((a+b)*c);", "  let x: [R] = new [R]((a + b) * c);")
	checkBody(t, "x=y;", "  x = y;")
	checkBody(t, "(x)=((y+1));", "  x = y + 1;")
	checkBody(t, "x.f=y;", "  x.f = y;")
	checkBody(t, "(x.f)=y;", "  x.f = y;")
	checkBody(t, "(a+b).c=-d;", "  (a + b).c = -d;")
	checkBody(t, "f(a,b)[i+1]=null[R];", "  f(a, b)[i + 1] = null [R];")
	checkBody(t, "return;", "  return;")
	checkBody(t, "return(a);", "  return a;")
	checkBody(t, "return(a+b).c;", "  return (a + b).c;")
	checkBody(t, "print(a);", "  print a;")
	checkBody(t, "print(!a).b;", "  print (!a).b;")
	checkBody(t, "f();", "  f();")
	checkBody(t, "(f(a,(b)));", "  f(a, b);")
	checkBody(t, "while a{}", "  while a {", "  }")
	checkBody(t, "while(a)<b{print 1;f();}", "  while a < b {", "    print 1;", "    f();", "  }")
	checkBody(t, "var x:int;x=1;print x;return;", "  var x: int;", "  x = 1;", "  print x;", "  return;")
}

// P6.2: conditionals; an empty Else has no lines, whether it was written or not.
func TestConditionals(t *testing.T) {
	checkBody(t, "if a{}", "  if a {", "  }")
	checkBody(t, "if a{}else{}", "  if a {", "  }")
	checkBody(t, "if(a){return;}", "  if a {", "    return;", "  }")
	checkBody(t, "if a{return;}else{}", "  if a {", "    return;", "  }")
	checkBody(t, "if a{}else{return;}", "  if a {", "  } else {", "    return;", "  }")
	checkBody(t, "if a||b{print 1;print 2;}else{print 3;print 4;}f();", "  if a || b {", "    print 1;", "    print 2;", "  } else {", "    print 3;", "    print 4;", "  }", "  f();")
	checkBody(t, "if a{}else{if b{}}", "  if a {", "  } else {", "    if b {", "    }", "  }")
	checkBody(t, "if a{}else{if b{}else{}}", "  if a {", "  } else {", "    if b {", "    }", "  }")
	checkBody(t, "if a{print 1;}else{if b{print 2;}else{print 3;}}",
		"  if a {", "    print 1;", "  } else {", "    if b {", "      print 2;", "    } else {", "      print 3;", "    }", "  }")
	checkBody(t, "if a{if b{}else{f();}}", "  if a {", "    if b {", "    } else {", "      f();", "    }", "  }")
	empty := api.Stmt{Kind: api.SIf, Es: []api.Expr{named("a")}, Body: []api.Stmt{}, Else: []api.Stmt{}}
	checkPrinted(t, api.Prog{Funcs: []api.Func{{Name: "f", Body: []api.Stmt{empty}}}}, "func f() {", "  if a {", "  }", "}")
}

// P6.2: blocks in blocks, as deep as a text may have them.
func TestNestedBlocks(t *testing.T) {
	checkBody(t, "while a{while b{}if c{while d{f();}}else{while e{}}}",
		"  while a {", "    while b {", "    }", "    if c {", "      while d {", "        f();", "      }", "    } else {", "      while e {", "      }", "    }", "  }")
	for _, x := range []struct {
		source string
		opened []string
	}{
		{"while a{", []string{"while a {"}}, {"if a{", []string{"if a {"}}, {"if a{}else{", []string{"if a {", "} else {"}},
	} {
		for depth := range api.MaxDeep {
			indent := func(n int) string { return strings.Repeat("  ", n) }
			var want []string
			for i := range depth {
				for _, line := range x.opened {
					want = append(want, indent(i+1)+line)
				}
			}
			want = append(want, indent(depth+1)+"return;")
			for i := range depth {
				want = append(want, indent(depth-i)+"}")
			}
			checkBody(t, strings.Repeat(x.source, depth)+"return;"+strings.Repeat("}", depth), want...)
		}
	}
}

// P6.2: what a block contains does not change how its function, or the next one, goes on.
func TestIndentationEnds(t *testing.T) {
	checkProgram(t, "func f(){while a{if b{return;}}return;}record R{a:int;}func g(){return;}record S{}global h:int;",
		"record R {", "  a: int;", "}", "record S {", "}", "global h: int;",
		"func f() {", "  while a {", "    if b {", "      return;", "    }", "  }", "  return;", "}", "func g() {", "  return;", "}")
}

// P6.2: however the declarations are interleaved, the records come first, then the globals, then the functions, each in their
// order.
func TestInterleavedDeclarations(t *testing.T) {
	for _, order := range []string{"RRGGFFF", "FFFGGRR", "GGRRFFF", "RFFFRGG", "FGRFGRF", "GFRFRFG", "FRGGRFF", "GRFFFRG"} {
		waiting := map[rune][]string{
			'R': {"record R{a:int;}", "record Q{}"}, 'G': {"global h:int;", "global g:[R];"}, 'F': {"func f(a:Q):int{return 1;}", "func main(){}", "func e(){}"},
		}
		source := ""
		for _, kind := range order {
			source += waiting[kind][0]
			waiting[kind] = waiting[kind][1:]
		}
		checkProgram(t, source, "record R {", "  a: int;", "}", "record Q {", "}", "global h: int;", "global g: [R];",
			"func f(a: Q): int {", "  return 1;", "}", "func main() {", "}", "func e() {", "}")
	}
}
