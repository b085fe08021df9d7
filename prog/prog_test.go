package prog_test

import (
	"reflect"
	"slices"
	"strings"
	"testing"

	"runrig/api"
	"runrig/prog"
)

// equal holds all fields of two values of one type against each other, At too; nil lists are empty ones (W5).
func equal(a, b reflect.Value) bool {
	switch a.Kind() {
	case reflect.Struct:
		for i := range a.NumField() {
			if !equal(a.Field(i), b.Field(i)) {
				return false
			}
		}
		return true
	case reflect.Slice:
		for i := range min(a.Len(), b.Len()) {
			if !equal(a.Index(i), b.Index(i)) {
				return false
			}
		}
		return a.Len() == b.Len()
	}
	return a.Interface() == b.Interface()
}

func equalProgs(a, b api.Prog) bool { return equal(reflect.ValueOf(a), reflect.ValueOf(b)) }

// short is a text as a message shows it.
func short(s string) string { return s[:min(len(s), 300)] }

// checkParsed wants this program, places included.
func checkParsed(t *testing.T, s string, want api.Prog) {
	t.Helper()
	got, fault := prog.Parse(s)
	if fault != (api.Fault{}) || !equalProgs(got, want) {
		t.Errorf("Parse(%q) = %+v, %v; want %+v", short(s), got, fault, want)
	}
}

// checkRefused wants this fault, and no program beside it (W3).
func checkRefused(t *testing.T, s string, e api.Errno, at int) {
	t.Helper()
	got, fault := prog.Parse(s)
	if want := (api.Fault{E: e, At: at}); fault != want || !reflect.DeepEqual(got, api.Prog{}) {
		t.Errorf("Parse(%q) = %+v, %v; want %v", short(s), got, fault, want)
	}
}

// parsed is the program of a text that is one.
func parsed(t *testing.T, s string) api.Prog {
	t.Helper()
	p, fault := prog.Parse(s)
	if fault != (api.Fault{}) {
		t.Fatalf("Parse(%q): %v", short(s), fault)
	}
	return p
}

func records(list ...api.Rec) api.Prog    { return api.Prog{Recs: list} }
func globals(list ...api.Param) api.Prog  { return api.Prog{Globals: list} }
func functions(list ...api.Func) api.Prog { return api.Prog{Funcs: list} }
func returned(at int) api.Stmt            { return api.Stmt{Kind: api.SRet, At: at} }

func param(at int, name, of string, dims int) api.Param {
	return api.Param{Name: name, Of: api.Of{Name: of, Dims: dims}, At: at}
}

func printed(at, n int) api.Stmt {
	return api.Stmt{Kind: api.SPrint, Es: []api.Expr{{Kind: api.EInt, N: n, At: at + len("print ")}}, At: at}
}

func variable(at int, name string) []api.Expr {
	return []api.Expr{{Kind: api.EVar, Name: name, At: at}}
}

// P5.1: a text without a token is a program without a declaration.
func TestNothing(t *testing.T) {
	for _, s := range []string{
		"", " ", "\n", "\t\r\n  ", "//", "// record R", "// a\n// b\n", "  // \xff#\n\t", strings.Repeat(" ", api.MaxText), "//" + strings.Repeat("{", api.MaxText-2),
	} {
		checkParsed(t, s, api.Prog{})
	}
}

// P5.1: records, with all fields and places.
func TestRecords(t *testing.T) {
	checkParsed(t, "record R { }", records(api.Rec{Name: "R", At: 7}))
	checkParsed(t, "record R{}//\n", records(api.Rec{Name: "R", At: 7}))
	checkParsed(t, " record abc { a: int; }", records(api.Rec{Name: "abc", At: 8, Fields: []api.Param{param(14, "a", "int", 0)}}))
	checkParsed(t, "record R{a:bool;b:[[[R]]];R:S;}record S{}", records(
		api.Rec{Name: "R", At: 7, Fields: []api.Param{param(9, "a", "bool", 0), param(16, "b", "R", 3), param(26, "R", "S", 0)}},
		api.Rec{Name: "S", At: 38},
	))
	checkParsed(t, "record R { } record R { a: int; a: int; }", records(
		api.Rec{Name: "R", At: 7}, api.Rec{Name: "R", At: 20, Fields: []api.Param{param(24, "a", "int", 0), param(32, "a", "int", 0)}},
	))
}

// P5.1: global variables, with all fields and places.
func TestGlobals(t *testing.T) {
	checkParsed(t, "global g: int;", globals(param(7, "g", "int", 0)))
	checkParsed(t, " global\nabcdefgh : [bool] ;//", globals(param(8, "abcdefgh", "bool", 1)))
	checkParsed(t, "global g:[[[R]]];global g:R;global h:int;", globals(param(7, "g", "R", 3), param(24, "g", "R", 0), param(35, "h", "int", 0)))
}

// P5.1: functions with and without parameters and a result, with all fields and places.
func TestFunctions(t *testing.T) {
	checkParsed(t, "func main() { }", functions(api.Func{Name: "main", At: 5}))
	checkParsed(t, "func f(){return;print 1;}", functions(api.Func{Name: "f", At: 5, Body: []api.Stmt{returned(9), printed(16, 1)}}))
	checkParsed(t, "func f(): int { }", functions(api.Func{Name: "f", At: 5, Has: true, Result: api.Of{Name: "int"}}))
	checkParsed(t, "func f():[[[R]]]{return;}", functions(api.Func{Name: "f", At: 5, Has: true, Result: api.Of{Name: "R", Dims: 3}, Body: []api.Stmt{returned(17)}}))
	checkParsed(t, "func f(a: int) { }", functions(api.Func{Name: "f", At: 5, Params: []api.Param{param(7, "a", "int", 0)}}))
	checkParsed(t, " func f(a:[R],b:bool,a:[[int]]):bool{}func f(){print 2;}", functions(
		api.Func{
			Name: "f", At: 6, Has: true, Result: api.Of{Name: "bool"},
			Params: []api.Param{param(8, "a", "R", 1), param(14, "b", "bool", 0), param(21, "a", "int", 2)},
		},
		api.Func{Name: "f", At: 43, Body: []api.Stmt{printed(47, 2)}},
	))
	checkParsed(t, "func f(){while a{if b{return;}else{return;}}f();}", functions(api.Func{Name: "f", At: 5, Body: []api.Stmt{
		{Kind: api.SWhile, At: 9, Es: variable(15, "a"), Body: []api.Stmt{
			{Kind: api.SIf, At: 17, Es: variable(20, "b"), Body: []api.Stmt{returned(22)}, Else: []api.Stmt{returned(35)}},
		}},
		{Kind: api.SDo, At: 44, Es: []api.Expr{{Kind: api.ECall, Name: "f", At: 44}}},
	}}))
}

// P5.1: records, globals and functions in one text, each in the order of their declaration.
func TestDeclarationsOfAllKinds(t *testing.T) {
	checkParsed(t, "func f(){}global b:int;record R{}global a:int;func e(){}record Q{}", api.Prog{
		Recs:    []api.Rec{{Name: "R", At: 30}, {Name: "Q", At: 63}},
		Globals: []api.Param{param(17, "b", "int", 0), param(40, "a", "int", 0)},
		Funcs:   []api.Func{{Name: "f", At: 5}, {Name: "e", At: 51}},
	})
}

const (
	keywords = "record global func var let if else while return print null new len read true false int bool"
	signs    = "<= == != && || { } ( ) [ ] ; : , . = + - * / % < !"
)

// anyToken is a token of each sort, separated by spaces.
const anyToken = keywords + " " + signs + " a 1"

// checkPlace wants every token but the allowed ones to be refused behind a text, whatever follows; so too the end of the text,
// unless end is among the allowed.
func checkPlace(t *testing.T, ahead, allowed string) {
	t.Helper()
	if !slices.Contains(strings.Fields(allowed), "end") {
		checkRefused(t, ahead, api.ErrParse, len(ahead))
		checkRefused(t, ahead+" // ;", api.ErrParse, len(ahead)+5)
	}
	for _, token := range strings.Fields(anyToken) {
		if !slices.Contains(strings.Fields(allowed), token) {
			checkRefused(t, ahead+token, api.ErrParse, len(ahead))
			checkRefused(t, ahead+token+" [ [[[[ { } record R { } ; : (", api.ErrParse, len(ahead))
		}
	}
}

// P5.1: at each place of the grammar, each token that is not allowed, and the end where a declaration is not finished. Keywords
// and operators stand among them where a name is asked.
func TestTokensThatAreNotAllowed(t *testing.T) {
	const declarations, ofType = "record global func end", "a int bool ["
	for _, place := range []struct{ text, allowed string }{
		{"", declarations}, {"record ", "a"}, {"record R ", "{"}, {"record R { ", "a }"}, {"record R { a ", ":"}, {"record R { a: ", ofType}, {"record R { a: [", ofType},
		{"record R { a: [b ", "]"}, {"record R { a: b ", ";"}, {"record R { a: [int] ", ";"}, {"record R { a: b; ", "a }"}, {"record R { a: b; c ", ":"}, {"record R { } ", declarations},
		{"global ", "a"}, {"global g ", ":"}, {"global g: ", ofType}, {"global g: [b ", "]"}, {"global g: b ", ";"}, {"global g: [b] ", ";"}, {"global g: b; ", declarations},
		{"func ", "a"}, {"func f ", "("}, {"func f( ", "a )"}, {"func f(a ", ":"}, {"func f(a: ", ofType}, {"func f(a: [b ", "]"}, {"func f(a: b ", ", )"},
		{"func f(a: b, ", "a"}, {"func f(a: b, c ", ":"}, {"func f(a: b, c: [int] ", ", )"}, {"func f(a: b) ", "{ :"}, {"func f() ", "{ :"}, {"func f(): ", ofType},
		{"func f(): [b ", "]"}, {"func f(): b ", "{"}, {"func f(a: b): [int] ", "{"}, {"func f() { } ", declarations}, {"func f(): int { } ", declarations},
		{"func f() { ", "} var let if while return print a 1 null new len read true false ( - !"}, {"func f() { a ", "= ( . [ <= == != && || + - * / % <"}, {"func f() { f() ", "; . [ <= == != && || + - * / % <"},
	} {
		checkPlace(t, place.text, place.allowed)
		if place.text != "" && !strings.HasSuffix(place.allowed, "end") {
			checkPlace(t, "global a: [b]; func c(): d { e(); } record f { } "+place.text, place.allowed)
		}
	}
}

// P5.1: a list of parameters does not end with a comma, however long it is.
func TestCommas(t *testing.T) {
	for n := range api.MaxParams {
		list := "func f(" + strings.Repeat("a:int,", n+1)
		checkRefused(t, list+"){}", api.ErrParse, len(list))
		checkRefused(t, list+",a:int){}", api.ErrParse, len(list))
		checkRefused(t, list, api.ErrParse, len(list))
	}
	checkRefused(t, "func f(,){}", api.ErrParse, 7)
	checkRefused(t, "func f(,a:int){}", api.ErrParse, 7)
}

// kinds are the kinds of declarations, with one of each, and how many there may be.
func kinds() []struct {
	one   string
	most  int
	count func(p api.Prog) int
} {
	return []struct {
		one   string
		most  int
		count func(p api.Prog) int
	}{
		{"record R { } ", api.MaxRecs, func(p api.Prog) int { return len(p.Recs) }},
		{"global g: int; ", api.MaxGlobals, func(p api.Prog) int { return len(p.Globals) }},
		{"func f() { } ", api.MaxFuncs, func(p api.Prog) int { return len(p.Funcs) }},
	}
}

// P5.1: as many declarations of a kind as there may be, and one more, which is refused at its keyword, whatever follows that.
func TestNumbersOfDeclarations(t *testing.T) {
	full := ""
	for _, kind := range kinds() {
		most := strings.Repeat(kind.one, kind.most)
		full += most
		if p := parsed(t, most); kind.count(p) != kind.most {
			t.Errorf("%d of %q", kind.count(p), kind.one)
		}
		checkRefused(t, most+"1", api.ErrParse, len(most))
	}
	parsed(t, full)
	for _, kind := range kinds() {
		keyword, _, _ := strings.Cut(kind.one, " ")
		for _, ahead := range []string{strings.Repeat(kind.one, kind.most), full} {
			for _, last := range []string{kind.one, keyword, keyword + " if", keyword + " ;", keyword + " 1 record", keyword + " a [[[["} {
				checkRefused(t, ahead+last, api.ErrLimit, len(ahead))
				checkRefused(t, ahead+last+" "+full, api.ErrLimit, len(ahead))
			}
		}
		for _, other := range kinds() {
			if other.one != kind.one {
				parsed(t, strings.Repeat(kind.one, kind.most)+other.one)
				parsed(t, other.one+strings.Repeat(kind.one, kind.most)+other.one)
			}
		}
	}
}

// numbered is so many names with a type, each with an end of its own.
func numbered(n int, end string) string {
	s := ""
	for i := range n {
		s += "a" + string(rune('a'+i)) + ":[b]" + end
	}
	return s
}

// checkOneTooMany wants ErrLimit at the name that is written behind a text, whatever follows it, and ErrParse for all that is
// no name.
func checkOneTooMany(t *testing.T, ahead, otherwiseAllowed string) {
	t.Helper()
	for _, last := range []string{"a", "a:", "a:int", "abcdefgh", "R if", "a:[[[[b", "a:int,b:int", "a:int;}", "a)", "a}", "a,"} {
		checkRefused(t, ahead+last, api.ErrLimit, len(ahead))
	}
	checkPlace(t, ahead, "a "+otherwiseAllowed)
}

// P5.1: each record may have MaxFields fields, and one more is refused at its name.
func TestNumbersOfFields(t *testing.T) {
	full := "record R{" + numbered(api.MaxFields, ";")
	for _, ahead := range []string{"", full + "}", "func f(" + numbered(api.MaxParams-1, ",") + "a:int){}" + full + "}"} {
		p := parsed(t, ahead+full+"}")
		if got := p.Recs[len(p.Recs)-1].Fields; len(got) != api.MaxFields || got[api.MaxFields-1].Name != "a"+string(rune('a'+api.MaxFields-1)) {
			t.Errorf("fields %v", got)
		}
		checkOneTooMany(t, ahead+full, "}")
	}
}

// P5.1: each function may have MaxParams parameters, and one more is refused at its name.
func TestNumbersOfParameters(t *testing.T) {
	list := "func f(" + numbered(api.MaxParams, ",")
	full := strings.TrimSuffix(list, ",") + ")"
	for _, ahead := range []string{"", full + "{}", full + ":int{}", "record R{" + numbered(api.MaxFields, ";") + "}" + full + "{}"} {
		for _, rest := range []string{"{}", ":int{}"} {
			p := parsed(t, ahead+full+rest)
			if got := p.Funcs[len(p.Funcs)-1].Params; len(got) != api.MaxParams || got[api.MaxParams-1].Name != "a"+string(rune('a'+api.MaxParams-1)) {
				t.Errorf("parameters %v", got)
			}
		}
		checkOneTooMany(t, ahead+list, "")
		checkPlace(t, strings.TrimSuffix(ahead+full, ")"), ", )")
	}
}

// checkDepth wants the beginnings of a nest to fit into a block that begins behind a text, and the last of them, at which it is
// refused, to be one too many.
func checkDepth(t *testing.T, ahead, left, right string, fits, at int) {
	t.Helper()
	parsed(t, ahead+"{"+strings.Repeat(left, fits)+strings.Repeat(right, fits)+"}")
	tooDeep := ahead + "{" + strings.Repeat(left, fits+1)
	at += len(tooDeep) - len(left)
	checkRefused(t, tooDeep+strings.Repeat(right, fits+1)+"}", api.ErrLimit, at)
	checkRefused(t, tooDeep, api.ErrLimit, at)
	checkRefused(t, tooDeep[:at+1], api.ErrLimit, at)
	checkRefused(t, tooDeep[:at+1]+" ] record 1", api.ErrLimit, at)
}

// P5.1: in the block of a function MaxDeep may be open with the block itself, and one more is refused.
func TestDepths(t *testing.T) {
	deepest := "func e(){" + strings.Repeat("if a{", api.MaxDeep-1) + strings.Repeat("}", api.MaxDeep)
	for _, ahead := range []string{
		"func f()", "func f():int", "func f(a:[[[int]]],b:[[[int]]]):[[[int]]]", "record R{a:[[[int]]];}global g:[[[int]]];func f()", deepest + "func f()", deepest + deepest + "func f():[int]",
	} {
		checkDepth(t, ahead, "if a{", "}", api.MaxDeep-1, 4)
		checkDepth(t, ahead, "while a{b=1;", "return;}", api.MaxDeep-1, 7)
		checkDepth(t, ahead, "if a{}else{", "}", api.MaxDeep-1, 4)
		parsed(t, ahead+"{print "+strings.Repeat("(", api.MaxDeep-1)+"1"+strings.Repeat(")", api.MaxDeep-1)+";}")
		tooDeep := ahead + "{print " + strings.Repeat("(", api.MaxDeep)
		checkRefused(t, tooDeep+"1"+strings.Repeat(")", api.MaxDeep)+";}", api.ErrLimit, len(tooDeep)-1)
	}
}

// P5.1: a type has at most MaxDims dimensions, wherever a declaration contains one.
func TestDimensions(t *testing.T) {
	for _, x := range []struct{ ahead, behind string }{
		{"record R{a:", ";}"}, {"record R{a:int;b:", ";c:int;}"}, {"global g:", ";"}, {"func f(a:", "){}"}, {"func f(a:int,b:", ",c:int){}"}, {"func f():", "{}"}, {"func f(a:int):", "{}"},
		{"func f(){var x:", ";}"}, {"func f(){print null ", ";}"},
	} {
		for _, of := range []string{"int", "bool", "R"} {
			for n := range api.MaxDims + 1 {
				parsed(t, x.ahead+strings.Repeat("[", n)+of+strings.Repeat("]", n)+x.behind)
			}
			checkRefused(t, x.ahead+strings.Repeat("[", api.MaxDims+1)+of+strings.Repeat("]", api.MaxDims+1)+x.behind, api.ErrLimit, len(x.ahead)+api.MaxDims)
		}
		checkRefused(t, x.ahead+"[[[[", api.ErrLimit, len(x.ahead)+3)
		checkRefused(t, x.ahead+"[[[", api.ErrParse, len(x.ahead)+3)
		checkRefused(t, x.ahead+"[int"+x.behind, api.ErrParse, len(x.ahead)+4)
	}
}

// P5.1: the faults of chapters 3 and 4 stand at their places in the text.
func TestFaultsInBlocks(t *testing.T) {
	for _, ahead := range []string{"func f(){", "func f(a:int):int{", "record R{} func e(){e();} func f(){if a{}else{"} {
		for _, x := range []struct {
			s  string
			e  api.Errno
			at int
		}{
			{"x = ;", api.ErrParse, 4}, {"x + 1;", api.ErrParse, 5}, {"f() = 1;", api.ErrParse, 4}, {"var x: [[[[int]]]];", api.ErrLimit, 10}, {"let x: int;", api.ErrParse, 10},
			{"return 1", api.ErrParse, 8}, {"f(a b);", api.ErrParse, 4}, {"if a { ] }", api.ErrParse, 7}, {"if a { } else ;", api.ErrParse, 14}, {"while { }", api.ErrParse, 6},
			{"print null [[[[a;", api.ErrLimit, 14}, {"a.1 = 2;", api.ErrParse, 2}, {"{ }", api.ErrParse, 0}, {"func g() { }", api.ErrParse, 0}, {"f();", api.ErrParse, 4},
		} {
			checkRefused(t, ahead+x.s, x.e, len(ahead)+x.at)
			if x.at < len(x.s) {
				checkRefused(t, ahead+x.s+"}}", x.e, len(ahead)+x.at)
			}
		}
	}
}

// P5.1: of two errors of the grammar the first one from left to right is returned.
func TestFirstFault(t *testing.T) {
	thirteenth := strings.Repeat("record R{}", api.MaxRecs) + "record R{}"
	for _, x := range []struct {
		s  string
		e  api.Errno
		at int
	}{
		{"x global g: [[[[int", api.ErrParse, 0}, {"global g: [[[[int; x", api.ErrLimit, 13}, {"global g h: [[[[int", api.ErrParse, 9}, {"func f(a: [[[[b, 1) { x + }", api.ErrLimit, 13},
		{"func f(a: b, 1: [[[[b) { x + }", api.ErrParse, 13}, {"func f(): [[[[b { x + }", api.ErrLimit, 13}, {"func f() b { x + ; null [[[[", api.ErrParse, 9}, {"func f() { x + ; null [[[[", api.ErrParse, 15},
		{"func f() { x = null [[[[; + }", api.ErrLimit, 23}, {"func f() { } } func g( {", api.ErrParse, 13}, {"record R { a: int } record 1 {", api.ErrParse, 18}, {"1 " + thirteenth, api.ErrParse, 0},
		{thirteenth + " 1", api.ErrLimit, 10 * api.MaxRecs}, {"global g:[[[[a;" + thirteenth, api.ErrLimit, 12}, {strings.Replace(thirteenth, "}", ";", 1), api.ErrParse, 9},
		{strings.TrimSuffix(thirteenth, "}record R{}") + "record R{}", api.ErrParse, 10*api.MaxRecs - 1},
		{"func f(" + numbered(api.MaxParams, ",") + "a){}" + thirteenth, api.ErrLimit, 7 + 7*api.MaxParams},
		{"func f(" + numbered(api.MaxParams-1, ",") + "a 1){}" + thirteenth, api.ErrParse, 9 + 7*(api.MaxParams-1)},
	} {
		checkRefused(t, x.s, x.e, x.at)
	}
}

// P5.1: an error of the lexer comes ahead of all errors of the grammar, also of those to its left.
func TestFaultsOfTheLexer(t *testing.T) {
	for _, ahead := range []string{
		"", "x ", "record R { a: int; } ", "record R { a int; } ", "record if ", "global g: [[[[int]]]]; ", "func f(a: int,) { } ", "func f() { x = ; } ", "func f() { ", "func f() { return; ",
		strings.Repeat("record R{}", api.MaxRecs+1), strings.Repeat("global g:int;", api.MaxGlobals+1), strings.Repeat("func f(){}", api.MaxFuncs+1), "record R{" + numbered(api.MaxFields+1, ";"),
		"func f(" + numbered(api.MaxParams+1, ","), "func f() {" + strings.Repeat("if a{", api.MaxDeep) + " ", "func f() { print " + strings.Repeat("(", api.MaxDeep) + " ",
	} {
		for _, bad := range []string{"#", "007", "1a", "&", "|", ">", "\xff", "\x00", "ninechars", "9223372036854775808", "\u00e4", "_a"} {
			checkRefused(t, ahead+bad, api.ErrLex, len(ahead))
			checkRefused(t, ahead+bad+" # record R { }", api.ErrLex, len(ahead))
			checkRefused(t, ahead+bad+" } ) ] ;", api.ErrLex, len(ahead))
		}
		for _, bad := range []string{"", "x", "#", "record R { }"} {
			checkRefused(t, ahead+bad+strings.Repeat(" ", api.MaxText+1), api.ErrLimit, 0)
		}
	}
	checkRefused(t, strings.Repeat(" ", api.MaxText+1), api.ErrLimit, 0)
	checkRefused(t, strings.Repeat(" ", api.MaxText-1)+"#", api.ErrLex, api.MaxText-1)
	checkRefused(t, strings.Repeat(" ", api.MaxText-1)+"x", api.ErrParse, api.MaxText-1)
}

// W1: texts of any length and of any bytes.
func TestLongTexts(t *testing.T) {
	for _, one := range []string{" ", "{", "record R { } ", "func f() { ", "if a {", "((", "--", "[", "\xff", "\x00"} {
		checkRefused(t, strings.Repeat(one, 1<<20), api.ErrLimit, 0)
	}
	begin, end := "func f(){", "}"
	statements := (api.MaxText - len(begin) - len(end)) / len("f();")
	p := parsed(t, begin+strings.Repeat("f();", statements)+end)
	if len(p.Funcs) != 1 || len(p.Funcs[0].Body) != statements || p.Funcs[0].Body[statements-1].At != len(begin)+4*(statements-1) {
		t.Errorf("not %d statements", statements)
	}
}
