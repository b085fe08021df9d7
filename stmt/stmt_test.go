package stmt_test

import (
	"math"
	"reflect"
	"slices"
	"strings"
	"testing"
	"unsafe"

	"runrig/api"
	"runrig/lex"
	"runrig/stmt"
)

// lexed are the tokens of a text, with the KEnd.
func lexed(t *testing.T, s string) []api.Tok {
	t.Helper()
	list, fault := lex.Tokens(s)
	if fault != (api.Fault{}) {
		t.Fatalf("Tokens(%q): %v", s, fault)
	}
	return list
}

func node(kind, at int, kids ...api.Expr) api.Expr { return api.Expr{Kind: kind, At: at, Kids: kids} }
func variable(name string, at int) api.Expr        { return api.Expr{Kind: api.EVar, Name: name, At: at} }
func number(n, at int) api.Expr                    { return api.Expr{Kind: api.EInt, N: n, At: at} }

func field(at int, of api.Expr, name string) api.Expr {
	return api.Expr{Kind: api.EField, Name: name, At: at, Kids: []api.Expr{of}}
}

func call(at int, name string, kids ...api.Expr) api.Expr {
	return api.Expr{Kind: api.ECall, Name: name, At: at, Kids: kids}
}

func simple(kind, at int, es ...api.Expr) api.Stmt { return api.Stmt{Kind: kind, At: at, Es: es} }

func set(at int, name string, e api.Expr) api.Stmt {
	return api.Stmt{Kind: api.SSet, Name: name, Es: []api.Expr{e}, At: at}
}

// declared is a statement that begins at 1.
func declared(kind int, name, of string, dims int, es ...api.Expr) api.Stmt {
	return api.Stmt{Kind: kind, Name: name, Of: api.Of{Name: of, Dims: dims}, Es: es, At: 1}
}

func branched(kind, at int, condition api.Expr, body, otherwise []api.Stmt) api.Stmt {
	return api.Stmt{Kind: kind, Es: []api.Expr{condition}, Body: body, Else: otherwise, At: at}
}

// equalExprs and equal hold all fields against each other, At too; nil lists are empty ones (W5).
func equalExprs(a, b api.Expr) bool {
	kids := slices.EqualFunc(a.Kids, b.Kids, equalExprs)
	a.Kids, b.Kids = nil, nil
	return kids && reflect.DeepEqual(a, b)
}

func equal(a, b api.Stmt) bool {
	lists := slices.EqualFunc(a.Es, b.Es, equalExprs) && slices.EqualFunc(a.Body, b.Body, equal) && slices.EqualFunc(a.Else, b.Else, equal)
	a.Es, a.Body, a.Else = nil, nil, nil
	b.Es, b.Body, b.Else = nil, nil, nil
	return lists && reflect.DeepEqual(a, b)
}

// checkParsed wants this statement, places included, and the index behind it.
func checkParsed(t *testing.T, list []api.Tok, at, open int, want api.Stmt, end int) {
	t.Helper()
	got, gotEnd, fault := stmt.Parse(list, at, open)
	if fault != (api.Fault{}) || gotEnd != end || !equal(got, want) {
		t.Errorf("Parse(%v, %d, %d) = %+v, %d, %v; want %+v, %d", list, at, open, got, gotEnd, fault, want, end)
	}
}

// checkBlock wants these statements, places included, and the index behind the block.
func checkBlock(t *testing.T, list []api.Tok, at, open int, want []api.Stmt, end int) {
	t.Helper()
	got, gotEnd, fault := stmt.Block(list, at, open)
	if fault != (api.Fault{}) || gotEnd != end || !slices.EqualFunc(got, want, equal) {
		t.Errorf("Block(%v, %d, %d) = %+v, %d, %v; want %+v, %d", list, at, open, got, gotEnd, fault, want, end)
	}
}

// checkRefused wants this fault, and zero values beside it (W3).
func checkRefused(t *testing.T, list []api.Tok, at, open int, want api.Fault) {
	t.Helper()
	got, end, fault := stmt.Parse(list, at, open)
	if fault != want || end != 0 || !reflect.DeepEqual(got, api.Stmt{}) {
		t.Errorf("Parse(%v, %d, %d) = %+v, %d, %v; want %v", list, at, open, got, end, fault, want)
	}
}

// checkNoBlock is checkRefused for Block.
func checkNoBlock(t *testing.T, list []api.Tok, at, open int, want api.Fault) {
	t.Helper()
	got, end, fault := stmt.Block(list, at, open)
	if fault != want || end != 0 || len(got) != 0 {
		t.Errorf("Block(%v, %d, %d) = %+v, %d, %v; want %v", list, at, open, got, end, fault, want)
	}
}

// checkText wants the whole text to be this statement.
func checkText(t *testing.T, s string, want api.Stmt) {
	t.Helper()
	list := lexed(t, s)
	checkParsed(t, list, 0, 0, want, len(list)-1)
}

// checkBadText wants this fault of a statement, and of blocks in which it stands.
func checkBadText(t *testing.T, s string, e api.Errno, at int) {
	t.Helper()
	checkRefused(t, lexed(t, s), 0, 0, api.Fault{E: e, At: at})
	for _, ahead := range []string{"{", "{f();", "{if a{}else{}", "{while a{", "{if a{}else{"} {
		checkNoBlock(t, lexed(t, ahead+s), 0, 0, api.Fault{E: e, At: len(ahead) + at})
	}
}

// P4.1: declarations, with all fields and places.
func TestDeclarations(t *testing.T) {
	checkText(t, " var x: int;", declared(api.SVar, "x", "int", 0))
	checkText(t, " var abc : [[[bool]]] ;", declared(api.SVar, "abc", "bool", 3))
	checkText(t, " var R: R;", declared(api.SVar, "R", "R", 0))
	checkText(t, " let x: R = a;", declared(api.SLet, "x", "R", 0, variable("a", 12)))
	checkText(t, " let x: [int] = a+1;", declared(api.SLet, "x", "int", 1, node(api.EAdd, 17, variable("a", 16), number(1, 18))))
}

// P4.1: statements that begin with a keyword, with all fields and places.
func TestStatementsByKeyword(t *testing.T) {
	a := variable("a", 4)
	checkText(t, " if a { }", branched(api.SIf, 1, a, nil, nil))
	checkText(t, " if a { } else { }", branched(api.SIf, 1, a, nil, nil))
	checkText(t, " if a { b = 1; }", branched(api.SIf, 1, a, []api.Stmt{set(8, "b", number(1, 12))}, nil))
	checkText(t, " if a { } else { b = 1; f(); }", branched(api.SIf, 1, a, nil, []api.Stmt{set(17, "b", number(1, 21)), simple(api.SDo, 24, call(24, "f"))}))
	checkText(t, " if a { f(); } else { g(); }", branched(api.SIf, 1, a, []api.Stmt{simple(api.SDo, 8, call(8, "f"))}, []api.Stmt{simple(api.SDo, 22, call(22, "g"))}))
	checkText(t, " while b { }", branched(api.SWhile, 1, variable("b", 7), nil, nil))
	checkText(t, " while b { return; return; }", branched(api.SWhile, 1, variable("b", 7), []api.Stmt{simple(api.SRet, 11), simple(api.SRet, 19)}, nil))
	checkText(t, " return;", simple(api.SRet, 1))
	checkText(t, " return -a;", simple(api.SRet, 1, node(api.ENeg, 8, variable("a", 9))))
	checkText(t, " print a.b;", simple(api.SPrint, 1, field(8, variable("a", 7), "b")))
}

// P4.1: the token behind the first expression, and its kind, decide.
func TestStatementsByExpression(t *testing.T) {
	one := number(1, 7)
	checkText(t, " f ();", simple(api.SDo, 1, call(1, "f")))
	checkText(t, " f(1, a);", simple(api.SDo, 1, call(1, "f", number(1, 3), variable("a", 6))))
	checkText(t, " (f());", simple(api.SDo, 1, call(2, "f")))
	checkText(t, " a   = 1;", set(1, "a", one))
	checkText(t, " (a) = 1;", set(1, "a", one))
	checkText(t, " a.b = 1;", simple(api.SPut, 1, field(2, variable("a", 1), "b"), one))
	checkText(t, "(a.b)= 1;", simple(api.SPut, 0, field(2, variable("a", 1), "b"), one))
	checkText(t, " a[2]= 1;", simple(api.SPut, 1, node(api.EItem, 2, variable("a", 1), number(2, 3)), one))
	checkText(t, "f().b= 1;", simple(api.SPut, 0, field(3, call(0, "f"), "b"), one))
	checkText(t, "(-a)[2]=f();", simple(api.SPut, 0, node(api.EItem, 4, node(api.ENeg, 1, variable("a", 2)), number(2, 5)), call(8, "f")))
	checkText(t, "a=b.c;", set(0, "a", field(3, variable("b", 2), "c")))
	checkText(t, "a = f() ;", set(0, "a", call(4, "f")))
}

// noCalls are expressions that are no call, and noPlaces such to which nothing can be assigned.
func noCalls() []string {
	return append([]string{"a", "a.b", "a[1]", "(a)", "f().b", "f()[1]"}, noPlaces()[3:]...)
}

func noPlaces() []string {
	return []string{"f()", "(f())", "f(a)", "1", "true", "null a", "new a", "new [a](1)", "len(a)", "read()", "-a", "!a", "-f()", "a+b", "a.b-c[1]", "a||b", "a<b", "a==b", "f()*g()", "(a+b)"}
}

// P4.1: no `;` behind an expression that is no call.
func TestNoCall(t *testing.T) {
	for _, s := range noCalls() {
		checkBadText(t, s+";", api.ErrParse, len(s))
		checkBadText(t, s+" ; = 1;", api.ErrParse, len(s)+1)
	}
}

// P4.1: no `=` behind an expression that is no name, no field and no item.
func TestNoPlace(t *testing.T) {
	for _, s := range noPlaces() {
		checkBadText(t, s+"=1;", api.ErrParse, len(s))
		checkBadText(t, s+" = ;", api.ErrParse, len(s)+1)
		checkBadText(t, s+" =", api.ErrParse, len(s)+1)
	}
}

// P4.1: neither `;` nor `=` behind the first expression.
func TestNeitherCallNorPlace(t *testing.T) {
	for _, s := range append(noCalls(), noPlaces()...) {
		checkBadText(t, s, api.ErrParse, len(s))
		for _, next := range []string{")", "]", ",", ":", "{", "}", "b", "1", "if", "else", "var", "int"} {
			checkBadText(t, s+" "+next, api.ErrParse, len(s)+1)
			checkBadText(t, s+" "+next+" = 1;", api.ErrParse, len(s)+1)
		}
	}
}

// P4.1: where a statement is due, the first token that begins none. In a block the `}` ends it.
func TestTokensThatBeginNoStatement(t *testing.T) {
	for _, s := range []string{";", "=", ":", "{", ")", "]", ",", ".", "+", "*", "&&", "else", "record", "global", "func", "int", "bool"} {
		for _, rest := range []string{"", " a = 1;", " ( [ [[[["} {
			checkBadText(t, s+rest, api.ErrParse, 0)
		}
	}
	checkRefused(t, lexed(t, "}"), 0, 0, api.Fault{E: api.ErrParse})
	checkRefused(t, lexed(t, "  } a = 1;"), 0, 0, api.Fault{E: api.ErrParse, At: 2})
	checkBadText(t, "", api.ErrParse, 0)
}

// P4.1: at the other places of the grammar, the first token that is not allowed.
func TestTokensThatAreNotAllowed(t *testing.T) {
	others := []string{"a", "1", "true", "int", "if", "else", "var", "read", "(", ")", "[", "]", "{", "}", ",", ".", ";", ":", "+", "!", "=", "=="}
	operand := "a 1 true read ( !"
	after := " . [ + =="
	for _, x := range []struct{ ahead, allowed string }{
		{"var ", "a"}, {"var a ", ":"}, {"var a: ", "a int ["}, {"var a: [", "a int ["}, {"var a: [b ", "]"}, {"var a: b ", ";"}, {"var a: [b] ", ";"},
		{"let ", "a"}, {"let a ", ":"}, {"let a: ", "a int ["}, {"let a: [b ", "]"}, {"let a: b ", "="}, {"let a: b = ", operand}, {"let a: b = c ", "; (" + after},
		{"if ", operand}, {"if 1 ", "{" + after}, {"if 1 { } else ", "{"}, {"if 1 { f(); } else ", "{"}, {"while ", operand}, {"while 1 ", "{" + after},
		{"return ", "; " + operand}, {"return 1 ", ";" + after}, {"print ", operand}, {"print 1 ", ";" + after},
		{"f() ", ";" + after}, {"a ", "= (" + after}, {"a.b ", "=" + after}, {"a[1] ", "=" + after}, {"1 ", after}, {"-1 ", after},
		{"a = ", operand}, {"a = 1 ", ";" + after}, {"a.b = ", operand}, {"a.b = 1 ", ";" + after}, {"a[1] = 1 ", ";" + after},
	} {
		checkBadText(t, x.ahead, api.ErrParse, len(x.ahead))
		for _, s := range others {
			if !slices.Contains(strings.Fields(x.allowed), s) {
				checkBadText(t, x.ahead+s, api.ErrParse, len(x.ahead))
				checkBadText(t, x.ahead+s+" a ; } ) ] *", api.ErrParse, len(x.ahead))
			}
		}
	}
}

// P4.1: every other token than `{` begins no block.
func TestTokensThatBeginNoBlock(t *testing.T) {
	for _, s := range []string{"", "a", "1", "}", ";", "(", "[", "if", "else", "return", "a = 1;", "f();"} {
		for _, open := range []int{0, api.MaxDeep} {
			checkNoBlock(t, lexed(t, " "+s), 0, open, api.Fault{E: api.ErrParse, At: 1})
		}
	}
}

// P4.1: blocks, with the places of their statements, and what follows them left alone.
func TestBlocks(t *testing.T) {
	for _, rest := range []string{"", " }", " else { }", " ;", " = 1;", " {", " a", " ( ["} {
		checkBlock(t, lexed(t, "{ }"+rest), 0, 0, nil, 2)
		checkBlock(t, lexed(t, "{ a=1; }"+rest), 0, 0, []api.Stmt{set(2, "a", number(1, 4))}, 6)
		checkBlock(t, lexed(t, "{ if a{return;} f(); }"+rest), 0, 0, []api.Stmt{
			branched(api.SIf, 2, variable("a", 5), []api.Stmt{simple(api.SRet, 7)}, nil), simple(api.SDo, 16, call(16, "f")),
		}, 12)
	}
	checkBlock(t, lexed(t, "if a { } else { return; }"), 5, 0, []api.Stmt{simple(api.SRet, 16)}, 9)
	long := lexed(t, "{"+strings.Repeat("f();", 1000)+"}")
	var want []api.Stmt
	for i := range 1000 {
		want = append(want, simple(api.SDo, 1+4*i, call(1+4*i, "f")))
	}
	checkBlock(t, long, 0, 0, want, 4002)
}

// P4.1: a block that is not closed is at fault at the end of the text.
func TestBlocksThatStayOpen(t *testing.T) {
	for _, s := range []string{"{", "{ a = 1;", "{ f(); g();", "{ if a { }", "{ if a { } else { }", "{ while a {", "{ while a { }", "{ if a { f();", "{ if a { } else {", "{ if a { } else { f();"} {
		list := lexed(t, s+"  ")
		checkNoBlock(t, list, 0, 0, api.Fault{E: api.ErrParse, At: len(s) + 2})
		checkNoBlock(t, list[:len(list)-1], 0, 0, api.Fault{E: api.ErrParse})
		checkNoBlock(t, append(list, lexed(t, "} } }")...), 0, 0, api.Fault{E: api.ErrParse, At: len(s) + 2})
	}
	checkRefused(t, lexed(t, "if a {"), 0, 0, api.Fault{E: api.ErrParse, At: 6})
	checkRefused(t, lexed(t, "if a { } else {"), 0, 0, api.Fault{E: api.ErrParse, At: 15})
	checkRefused(t, lexed(t, "while a { f();"), 0, 0, api.Fault{E: api.ErrParse, At: 14})
}

// P4.1: an `else` belongs to the `if` whose block is directly ahead of it, and to nothing else.
func TestElse(t *testing.T) {
	f, g := []api.Stmt{simple(api.SDo, 12, call(12, "f"))}, []api.Stmt{simple(api.SDo, 25, call(25, "g"))}
	checkText(t, "if a { if b{f();} else  {g();} }", branched(api.SIf, 0, variable("a", 3), []api.Stmt{branched(api.SIf, 7, variable("b", 10), f, g)}, nil))
	checkText(t, "if a { if b{f();} }else {g();}", branched(api.SIf, 0, variable("a", 3), []api.Stmt{branched(api.SIf, 7, variable("b", 10), f, nil)}, g))
	for _, s := range []string{"f();", "a = 1;", "return;", "var a: b;", "while a { }", "if a { } else { }", "while a { if a { } }"} {
		list := lexed(t, s+" else { }")
		want, end, fault := stmt.Parse(lexed(t, s), 0, 0)
		if fault != (api.Fault{}) {
			t.Errorf("%q: %v", s, fault)
		}
		checkParsed(t, list, 0, 0, want, end)
		checkNoBlock(t, lexed(t, "{"+s+" else { } }"), 0, 0, api.Fault{E: api.ErrParse, At: len(s) + 2})
	}
	checkRefused(t, lexed(t, "if a { } else if b { }"), 0, 0, api.Fault{E: api.ErrParse, At: 14})
}

// P4.1: a statement ends there, whatever follows, and begins at any index.
func TestStatementsEndThere(t *testing.T) {
	for _, s := range []string{
		"var a: [b];", "let a: b = c;", "a = 1;", "a.b = c;", "a[1] = c;", "f();", "return;", "return a;", "print a;", "while a { f(); }", "if a { } else { f(); }", "if a { f(); }",
	} {
		want, end, fault := stmt.Parse(lexed(t, s), 0, 0)
		if fault != (api.Fault{}) || end != len(lexed(t, s))-1 {
			t.Errorf("%q: %d, %v", s, end, fault)
		}
		for _, rest := range []string{"", ";", "}", "{", "a", "1", "= 2;", ".b = 1;", "if", "(", "func", "[ [[[["} {
			checkParsed(t, lexed(t, s+" "+rest), 0, 0, want, end)
			list := lexed(t, s)
			checkParsed(t, append(list[:end:end], api.Tok{Kind: 9}), 0, 0, want, end)
		}
		list := slices.Concat(lexed(t, "} { ("), lexed(t, s))
		checkParsed(t, list, 4, 0, want, end+4)
		checkParsed(t, lexed(t, s)[:end], 0, 0, want, end)
	}
}

// P4.1: an index without a token has a KEnd at offset 0.
func TestIndexWithoutToken(t *testing.T) {
	refused := api.Fault{E: api.ErrParse}
	list := lexed(t, "  { return;")
	for _, at := range []int{math.MinInt, -2, -1, 4, 5, math.MaxInt} {
		checkRefused(t, list, at, 0, refused)
		checkNoBlock(t, list, at, 0, refused)
		checkNoBlock(t, list, at, api.MaxDeep, refused)
	}
	checkRefused(t, list, 3, 0, api.Fault{E: api.ErrParse, At: 11})
	checkNoBlock(t, list, 3, 0, api.Fault{E: api.ErrParse, At: 11})
	for _, none := range [][]api.Tok{nil, {}, make([]api.Tok, 0, 5)} {
		for _, at := range []int{-1, 0, 1} {
			checkRefused(t, none, at, 0, refused)
			checkNoBlock(t, none, at, 0, refused)
		}
	}
}

// P4.1: where the list ends without a KEnd, the place of a fault is offset 0; tokens in its room behind are not read.
func TestListWithoutEnd(t *testing.T) {
	for _, s := range []string{"var a: [b];", "let a: b = c;", "a = f(1);", "a.b = c;", "f(b);", "return a;", "print a;", "while a { f(); }", "if a { f(); g = 1; }", "{ f(); return; }"} {
		list := lexed(t, s)
		for end := range list[:len(list)-1] {
			checkRefused(t, list[:end], 0, 0, api.Fault{E: api.ErrParse})
			checkNoBlock(t, list[:end:end], 0, 0, api.Fault{E: api.ErrParse})
		}
	}
	whole := lexed(t, "if a { f(); } else { g(); }")
	for end := 9; end < len(whole)-1; end++ {
		checkRefused(t, whole[:end], 0, 0, api.Fault{E: api.ErrParse})
	}
}

// nested is n times the beginning of a statement that ends with a block, a text, and n times its end.
func nested(n int, left, inner, right string) string {
	return strings.Repeat(left, n) + inner + strings.Repeat(right, n)
}

// opens are numbers that may be open at the beginning.
func opens() []int {
	return []int{math.MinInt, -7, -1, 0, 1, 2, api.MaxDeep - 3, api.MaxDeep - 1, api.MaxDeep, api.MaxDeep + 1, 1 << 40, math.MaxInt}
}

// roomBehind is how many more may be opened.
func roomBehind(open int) int { return max(api.MaxDeep-max(open, 0), 0) }

// checkAccepted wants the text to be one statement or block.
func checkAccepted(t *testing.T, s string, open int) {
	t.Helper()
	list := lexed(t, s)
	end, fault := 0, api.Fault{}
	if strings.HasPrefix(s, "{") {
		_, end, fault = stmt.Block(list, 0, open)
	} else {
		_, end, fault = stmt.Parse(list, 0, open)
	}
	if fault != (api.Fault{}) || end != len(list)-1 {
		t.Errorf("%q while %d are open: %d, %v", s, open, end, fault)
	}
}

// checkTooDeep wants ErrLimit at this place, whatever stands behind the token that is at fault.
func checkTooDeep(t *testing.T, s string, open, at int) {
	t.Helper()
	for _, text := range []string{s, s[:at+1], s[:at+1] + " ; [ [[[[ ) else"} {
		if strings.HasPrefix(s, "{") {
			checkNoBlock(t, lexed(t, text), 0, open, api.Fault{E: api.ErrLimit, At: at})
		} else {
			checkRefused(t, lexed(t, text), 0, open, api.Fault{E: api.ErrLimit, At: at})
		}
	}
}

// P4.1: MaxDeep blocks may be open, and one more is refused at its `{`; what is open at the beginning counts.
func TestDepths(t *testing.T) {
	for _, x := range []struct{ left, right string }{
		{"if a{", "}"}, {"while a{", "}"}, {"if a{b=1;", "}else{}"}, {"if a{}else{", "}"}, {"if a{b=1;}else{", "return;}"},
	} {
		for _, open := range opens() {
			room := roomBehind(open)
			checkTooDeep(t, nested(room+1, x.left, "", x.right), open, room*len(x.left)+strings.Index(x.left, "{"))
			if room == 0 {
				checkTooDeep(t, "{"+x.left+x.right+"}", open, 0)
				continue
			}
			checkAccepted(t, nested(room, x.left, "b=1;", x.right), open)
			checkAccepted(t, "{"+nested(room-1, x.left, "b=1;", x.right)+"}", open)
			checkTooDeep(t, "{"+nested(room, x.left, "", x.right)+"}", open, 1+(room-1)*len(x.left)+strings.Index(x.left, "{"))
		}
	}
}

// P4.1: brackets and operators of an expression count together with the blocks around it, wherever it stands in a statement.
func TestDepthsOfExpressions(t *testing.T) {
	for _, x := range []struct {
		text  string
		depth int
		last  string // with what begins that opens as the first one at the greatest depth
	}{
		{"a = (1);", 1, "("}, {"f();", 1, "("}, {"a[1] = 2;", 1, "["}, {"a.b = -1;", 1, "-"}, {"a[1] = !b;", 1, "["}, {"let a: [[[b]]] = f();", 1, "("},
		{"return (a);", 1, "("}, {"return -1;", 1, "-"}, {"print len(a);", 1, "("}, {"print new [[[[a]]]](b);", 1, "("},
		{"f(a[1]);", 2, "["}, {"if -f(a) { }", 2, "("}, {"while !a[1] { }", 2, "["}, {"if a { b = f(1); }", 2, "("}, {"if a { } else { b[c] = 1; }", 2, "["},
		{"while a { if b { f(-1); } }", 4, "-"}, {"(a[(1)]) = 2;", 3, "(1"}, {"a = ((-b)) + ((c));", 3, "-"},
	} {
		for n := range 5 {
			for _, left := range []string{"if b{", "while b{", "if b{}else{"} {
				open := api.MaxDeep - x.depth - n
				s := nested(n, left, x.text, "}")
				checkAccepted(t, s, open)
				checkTooDeep(t, s, open+1, n*len(left)+strings.Index(x.text, x.last))
			}
		}
	}
}

// P4.1: where nothing opens, it does not matter how much is open.
func TestNothingOpens(t *testing.T) {
	for _, s := range []string{"var a: [[[b]]];", "let a: [b] = null [c];", "a = 1;", "a.b = c;", "return;", "return a;", "print a*b;"} {
		for _, open := range opens() {
			checkAccepted(t, s, open)
		}
	}
}

// P4.1: what is closed is no longer open.
func TestClosedIsNotOpen(t *testing.T) {
	for _, x := range []struct {
		text  string
		depth int
	}{
		{"if a{}else{}", 1}, {"if (a){}", 1}, {"while -a{}", 1}, {"if a[1]{}else{}", 1}, {"a[1]=-b;", 1}, {"f().b=(c);", 1}, {"(f());", 2}, {"f((a), b);", 2},
		{"{}", 1}, {"{f();a[1]=-b;return (c);}", 2}, {"{if a{}if a{}else{}while a{}f();}", 2}, {"{while a{}while (a){}f()[1].b=c;}", 2}, {"{if a{(b).c=1;}else{f();}f();}", 3},
	} {
		checkAccepted(t, x.text, api.MaxDeep-x.depth)
	}
}

// strange are tokens that the lexer never produces.
func strange() []api.Tok {
	list := []api.Tok{{Kind: api.KWord}, {Kind: api.KSign}, {Kind: api.KWord, Text: "Var"}, {Kind: api.KSign, Text: ":="}, {Kind: api.KSign, Text: "; "}}
	for _, text := range []string{"", "a", "var", "let", "if", "else", "while", "return", "print", "{", "}", ";", ":", "=", "("} {
		for _, kind := range []int{api.KEnd, api.KSign + 1, -1, math.MaxInt, math.MinInt} {
			list = append(list, api.Tok{Kind: kind, Text: text, N: 1})
		}
	}
	for _, text := range []string{"{", "}", ";", ":", "=", "a", "1", "Else"} {
		list = append(list, api.Tok{Kind: api.KWord, Text: text})
	}
	for _, text := range []string{"var", "let", "if", "else", "while", "return", "print", "a", "1"} {
		list = append(list, api.Tok{Kind: api.KSign, Text: text})
	}
	return list
}

// P4.1: tokens of other kinds, or with other texts, are allowed nowhere.
func TestStrangeTokens(t *testing.T) {
	for _, token := range strange() {
		token.At = 77
		refused := api.Fault{E: api.ErrParse, At: 77}
		for _, ahead := range []string{
			"", "var", "var a", "var a:", "var a: b", "let", "let a:", "let a: b", "let a: b =", "let a: b = c", "if", "if a", "if a { } else", "while", "while a",
			"return", "return a", "print", "print a", "a", "f()", "a.b", "a =", "a = b", "a[1] =", "a[1] = b", "if a {", "if a { f();", "if a { } else {", "while a {",
		} {
			begun := lexed(t, ahead)
			list := slices.Concat(begun[:len(begun)-1], []api.Tok{token}, lexed(t, "{ } ; = a"))
			checkRefused(t, list, 0, 0, refused)
			checkNoBlock(t, slices.Concat([]api.Tok{{Kind: api.KSign, Text: "{"}}, list), 0, 0, refused)
		}
		checkNoBlock(t, []api.Tok{token, {Kind: api.KSign, Text: "}"}}, 0, 0, refused)
		list := lexed(t, "if a { }")
		want, end, _ := stmt.Parse(list, 0, 0)
		list[end] = token
		checkParsed(t, list, 0, 0, want, end)
	}
}

// P4.1: the kind says what a name is, whatever its other fields contain, and the other fields of signs and keywords do not matter.
func TestStrangeNames(t *testing.T) {
	for _, text := range []string{"", "var", "if", "}", ";", "1", "int", "\xff", "no name", strings.Repeat("long", 1000)} {
		list := []api.Tok{
			{Kind: api.KName, Text: text, N: 7, At: -3}, {Kind: api.KSign, Text: "=", N: -1, At: math.MaxInt}, {Kind: api.KInt, Text: text, N: math.MinInt, At: 5},
			{Kind: api.KSign, Text: ";", N: 4},
		}
		checkParsed(t, list, 0, 0, set(-3, text, number(math.MinInt, 5)), 4)
		list = []api.Tok{{Kind: api.KWord, Text: "var", N: 3, At: 1}, {Kind: api.KName, Text: text}, {Kind: api.KSign, Text: ":"}, {Kind: api.KName, Text: text}, {Kind: api.KSign, Text: ";"}}
		checkParsed(t, list, 0, 0, declared(api.SVar, text, text, 0), 5)
	}
	checkRefused(t, []api.Tok{{Kind: api.KWord, Text: "print"}, {Kind: api.KEnd, At: math.MinInt}}, 0, 0, api.Fault{E: api.ErrParse, At: math.MinInt})
}

// P4.1: of two errors the first one from left to right is returned.
func TestFirstFault(t *testing.T) {
	checkBadText(t, "var 1: [[[[int;", api.ErrParse, 4)
	checkBadText(t, "var a: [[[[1;", api.ErrLimit, 10)
	checkBadText(t, "let a: [[[[b]]]] + c", api.ErrLimit, 10)
	checkBadText(t, "let a: b + [[[[", api.ErrParse, 9)
	checkBadText(t, "let a: b = null [[[[c + d;", api.ErrLimit, 19)
	checkBadText(t, "a + b; null [[[[", api.ErrParse, 5)
	checkBadText(t, "a + null [[[[b = c;", api.ErrLimit, 12)
	checkBadText(t, "f() = null [[[[", api.ErrParse, 4)
	checkBadText(t, "1 = ;", api.ErrParse, 2)
	checkBadText(t, "if a b { null [[[[", api.ErrParse, 5)
	checkBadText(t, "if null [[[[a] b {", api.ErrLimit, 11)
	checkBadText(t, "if a { 1; } else 2", api.ErrParse, 8)
	checkBadText(t, "if a { } else 2 { 1; }", api.ErrParse, 14)
	checkBadText(t, "while a { b; null [[[[", api.ErrParse, 11)
	checkBadText(t, "return a b null [[[[", api.ErrParse, 9)
	checkBadText(t, "print null [[[[a] ) ;", api.ErrLimit, 14)
	for _, x := range []struct {
		text string
		e    api.Errno
		at   int
	}{
		{"if a) {", api.ErrParse, 4}, {"if a { (", api.ErrLimit, 5}, {"if (a) {", api.ErrLimit, 3}, {"if a b{", api.ErrParse, 5}, {"f(a b", api.ErrLimit, 1},
		{"a = b (", api.ErrLimit, 6}, {"a = b c (", api.ErrParse, 6}, {"a = (b ]", api.ErrLimit, 4}, {"while {", api.ErrParse, 6}, {"f {", api.ErrParse, 2}, {"{", api.ErrParse, 0},
	} {
		checkRefused(t, lexed(t, x.text), 0, api.MaxDeep, api.Fault{E: x.e, At: x.at})
		checkNoBlock(t, lexed(t, "{"+x.text), 0, api.MaxDeep-1, api.Fault{E: x.e, At: x.at + 1})
		checkNoBlock(t, lexed(t, "{"+x.text), 0, api.MaxDeep, api.Fault{E: api.ErrLimit})
	}
}

// W1: very many statements, one after another and with many blocks side by side.
func TestLongBlocks(t *testing.T) {
	const length = 1 << 14
	for _, s := range []string{"f();", "a=b;", "if a{}else{return;}", "while a{f();a.b=1;}"} {
		checkLongBlock(t, s, length)
	}
}

func checkLongBlock(t *testing.T, s string, length int) {
	t.Helper()
	one := lexed(t, s)
	want, _, _ := stmt.Parse(one, 0, 0)
	sign := func(text string) []api.Tok { return []api.Tok{{Kind: api.KSign, Text: text}} }
	list := slices.Concat(sign("{"), slices.Repeat(one[:len(one)-1], length), sign("}"))
	got, end, fault := stmt.Block(list, 0, 0)
	if fault != (api.Fault{}) || end != len(list) || len(got) != length || !equal(got[length-1], want) {
		t.Errorf("%d times %q: %d statements, %d, %v", length, s, len(got), end, fault)
	}
}

// sample has every field set, and statements in both blocks.
func sample() api.Stmt {
	e := api.Expr{Kind: api.ECall, N: 1, Name: "f", Kids: []api.Expr{variable("a", 4), number(1, 6)}, At: 3}
	inner := api.Stmt{Kind: api.SPut, Name: "i", Of: api.Of{Name: "r", Dims: 1}, Es: []api.Expr{e, e}, At: 8, Ref: 5}
	outer := api.Stmt{Kind: api.SIf, Name: "o", Of: api.Of{Name: "q", Dims: 2}, Es: []api.Expr{e}, At: 9, Ref: 2}
	outer.Body = []api.Stmt{inner, {Kind: api.SWhile, Body: []api.Stmt{inner}}}
	outer.Else = []api.Stmt{{Kind: api.SIf, Else: []api.Stmt{inner}}, inner}
	return outer
}

// changes are all ways to change one field of a statement, except At.
func changes() []func(s *api.Stmt) {
	return []func(s *api.Stmt){
		func(s *api.Stmt) { s.Kind++ },
		func(s *api.Stmt) { s.Name += "x" },
		func(s *api.Stmt) { s.Of.Name += "x" },
		func(s *api.Stmt) { s.Of.Dims-- },
		func(s *api.Stmt) { s.Ref++ },
		func(s *api.Stmt) { s.Es = append(s.Es, api.Expr{}) },
		func(s *api.Stmt) { s.Es = s.Es[1:] },
		func(s *api.Stmt) { s.Es[0].Kids[1].N++ },
		func(s *api.Stmt) { s.Es[0].Type.Base++ },
		func(s *api.Stmt) { s.Body = append(s.Body, api.Stmt{}) },
		func(s *api.Stmt) { s.Else = append(s.Else, api.Stmt{}) },
		func(s *api.Stmt) { s.Body, s.Else = append(s.Else, api.Stmt{}), s.Body },
	}
}

func copyExpr(e api.Expr, move int) api.Expr {
	e.At += move
	kids := make([]api.Expr, 0, len(e.Kids)+1)
	for _, kid := range e.Kids {
		kids = append(kids, copyExpr(kid, move))
	}
	e.Kids = kids
	return e
}

// deepCopy is an equal statement in other memory, with all places moved.
func deepCopy(s api.Stmt, move int) api.Stmt {
	s.At += move
	es := make([]api.Expr, 0, len(s.Es)+1)
	for _, e := range s.Es {
		es = append(es, copyExpr(e, move))
	}
	s.Es, s.Body, s.Else = es, copies(s.Body, move), copies(s.Else, move)
	return s
}

func copies(list []api.Stmt, move int) []api.Stmt {
	made := make([]api.Stmt, 0, len(list)+1)
	for _, s := range list {
		made = append(made, deepCopy(s, move))
	}
	return made
}

// P4.2: places do not matter, at any depth, and every other field does.
func TestSame(t *testing.T) {
	a := sample()
	for _, move := range []int{0, 1, -1 << 60} {
		if b := deepCopy(a, move); !stmt.Same(a, b) || !stmt.Same(b, a) {
			t.Errorf("only the places differ, by %d", move)
		}
	}
	for i, part := range []func(s *api.Stmt) *api.Stmt{
		func(s *api.Stmt) *api.Stmt { return s },
		func(s *api.Stmt) *api.Stmt { return &s.Body[0] },
		func(s *api.Stmt) *api.Stmt { return &s.Body[1].Body[0] },
		func(s *api.Stmt) *api.Stmt { return &s.Else[0].Else[0] },
		func(s *api.Stmt) *api.Stmt { return &s.Else[1] },
	} {
		for j, change := range changes() {
			b := deepCopy(a, 0)
			change(part(&b))
			if stmt.Same(a, b) || stmt.Same(b, a) {
				t.Errorf("part %d: change %d is not seen", i, j)
			}
		}
	}
}

// P4.2: the number and the order of the parts matter, and in which list they are; nil lists are empty ones (W5).
func TestSameLists(t *testing.T) {
	e, f := variable("a", 0), variable("b", 0)
	x, y := simple(api.SRet, 0), simple(api.SPrint, 0, e)
	body := func(list ...api.Stmt) api.Stmt { return api.Stmt{Body: list} }
	otherwise := func(list ...api.Stmt) api.Stmt { return api.Stmt{Else: list} }
	for _, z := range []struct {
		left, right api.Stmt
		same        bool
	}{
		{api.Stmt{}, api.Stmt{Es: []api.Expr{}, Body: []api.Stmt{}, Else: []api.Stmt{}}, true}, {api.Stmt{}, api.Stmt{}, true},
		{body(x, y), body(x, y), true}, {body(x, y), body(y, x), false}, {body(x), body(x, x), false}, {body(x), body(), false}, {body(x), otherwise(x), false},
		{otherwise(x, y), otherwise(x, y), true}, {otherwise(x, y), otherwise(y, x), false}, {otherwise(x), otherwise(x, x), false}, {otherwise(api.Stmt{}), otherwise(), false},
		{simple(1, 0, e, f), simple(1, 5, e, f), true}, {simple(1, 0, e, f), simple(1, 0, f, e), false}, {simple(1, 0, e), simple(1, 0, e, e), false},
		{simple(1, 0, api.Expr{}), simple(1, 0), false}, {body(body(x)), body(body(y)), false}, {body(body(x)), body(body(x)), true}, {body(otherwise(x)), body(body(x)), false},
	} {
		if stmt.Same(z.left, z.right) != z.same || stmt.Same(z.right, z.left) != z.same {
			t.Errorf("Same(%+v, %+v) is not %t", z.left, z.right, z.same)
		}
	}
}

// P4.2: statements that are nested as deeply as the document's bounds allow.
func TestSameOfDeepStatements(t *testing.T) {
	chain := func(end int) api.Stmt {
		s := simple(end, 0)
		for i := range 1<<16 - 2 {
			if i%2 == 0 {
				s = api.Stmt{Body: []api.Stmt{s}}
			} else {
				s = api.Stmt{Else: []api.Stmt{s}}
			}
		}
		return s
	}
	if !stmt.Same(chain(1), chain(1)) || stmt.Same(chain(1), chain(2)) {
		t.Error("the innermost parts decide")
	}
}

// P4.3: each statement of a block is the one that Parse finds there, one directly behind the other, down to the innermost ones.
func TestStatementsOfBlocks(t *testing.T) {
	list := lexed(t, "{ "+everyStatement+" }")
	block, end, fault := stmt.Block(list, 0, 0)
	if fault != (api.Fault{}) || end != len(list)-1 || len(block) != 2 {
		t.Fatalf("%d statements, %d, %v", len(block), end, fault)
	}
	if seen := checkStatements(t, list, 1, 1, block); seen != 15 {
		t.Errorf("%d statements", seen)
	}
}

// checkStatements parses, from the index on, each of the statements on its own, and answers how many there are with those inside.
func checkStatements(t *testing.T, list []api.Tok, at, open int, block []api.Stmt) int {
	t.Helper()
	seen := len(block)
	for _, want := range block {
		if list[at].At != want.At {
			t.Errorf("the statement at %d is not directly behind the one before", want.At)
		}
		got, end, fault := stmt.Parse(list, at, open)
		if fault != (api.Fault{}) || !equal(got, want) {
			t.Errorf("on its own: %+v, %v; in the block: %+v", got, fault, want)
		}
		for _, inner := range [][]api.Stmt{want.Body, want.Else} {
			if len(inner) > 0 {
				first := slices.IndexFunc(list, func(token api.Tok) bool { return token.At == inner[0].At })
				seen += checkStatements(t, list, first, open+1, inner)
			}
		}
		at = end
	}
	if list[at].Text != "}" {
		t.Errorf("%v ends the block", list[at])
	}
	return seen
}

// P4.3: what is refused on its own is refused in a block, with the same fault, if as much is open.
func TestRefusedInBlocks(t *testing.T) {
	list := lexed(t, everyStatement)
	for i := range list {
		for _, token := range vocabulary() {
			changed := slices.Clone(list)
			changed[i] = token
			changed = placed(append([]api.Tok{{Kind: api.KSign, Text: "{"}}, changed...))
			got, end, fault := stmt.Parse(changed, 1, 1)
			if changed[1].Kind == api.KSign && changed[1].Text == "}" {
				continue // it ends the block
			}
			if fault.E != api.OK {
				checkNoBlock(t, changed, 0, 0, fault)
				continue
			}
			if block, _, blockFault := stmt.Block(append(changed[:end:end], api.Tok{Kind: api.KSign, Text: "}"}), 0, 0); blockFault.E != api.OK || len(block) != 1 || !equal(block[0], got) {
				t.Errorf("%+v alone, %+v, %v in a block", got, block, blockFault)
			}
		}
	}
}

// W6: the tokens are not changed, and the list's room behind its end neither.
func TestTokensStayAsTheyAre(t *testing.T) {
	list := lexed(t, "{"+everyStatement+"} ) [ [[ x")
	kept := slices.Clone(list)
	for end := range list {
		for _, at := range []int{-1, 0, 1, end / 2, end - 1, end} {
			stmt.Parse(list[:end], at, 0)
			stmt.Block(list[:end], at, 0)
		}
	}
	if !slices.Equal(list, kept) {
		t.Errorf("%v became %v", kept, list)
	}
}

// piece is a part of memory.
type piece struct{ from, size uintptr }

func pieceOf[T any](list []T) piece {
	var item T
	return piece{uintptr(unsafe.Pointer(unsafe.SliceData(list))), unsafe.Sizeof(item) * uintptr(cap(list))}
}

func overlap(a, b piece) bool {
	return a.size > 0 && b.size > 0 && a.from < b.from+b.size && b.from < a.from+a.size
}

func exprPieces(e api.Expr) []piece {
	list := []piece{pieceOf(e.Kids)}
	for _, kid := range e.Kids {
		list = append(list, exprPieces(kid)...)
	}
	return list
}

// pieces is the memory of all lists of some statements.
func pieces(block []api.Stmt) []piece {
	list := []piece{pieceOf(block)}
	for _, s := range block {
		list = append(list, pieceOf(s.Es))
		for _, e := range s.Es {
			list = append(list, exprPieces(e)...)
		}
		list = append(append(list, pieces(s.Body)...), pieces(s.Else)...)
	}
	return list
}

// texts are the names of some statements.
func texts(block []api.Stmt) []string {
	var list []string
	var ofExpr func(e api.Expr)
	ofExpr = func(e api.Expr) {
		list = append(list, e.Name, e.Of.Name)
		for _, kid := range e.Kids {
			ofExpr(kid)
		}
	}
	for _, s := range block {
		list = append(list, s.Name, s.Of.Name)
		for _, e := range s.Es {
			ofExpr(e)
		}
		list = append(append(list, texts(s.Body)...), texts(s.Else)...)
	}
	return list
}

// W6: a result shares no memory with the tokens or another result, and no two lists of it share any.
func TestResultsAreNew(t *testing.T) {
	list := lexed(t, "{"+everyStatement+"}")
	first, _, _ := stmt.Block(list, 0, 0)
	second, _, _ := stmt.Block(list, 0, 0)
	for _, name := range texts(first) {
		for _, token := range list {
			if overlap(pieceOf(unsafe.Slice(unsafe.StringData(name), len(name))), pieceOf(unsafe.Slice(unsafe.StringData(token.Text), len(token.Text)))) {
				t.Errorf("the name %q is a token's", name)
			}
		}
	}
	all := append(pieces(first), pieces(second)...)
	for i, a := range all {
		for _, b := range all[:i] {
			if overlap(a, b) {
				t.Errorf("%v and %v share memory", a, b)
			}
		}
	}
}

// W7: a later call, and a change of the tokens, leave a result as it is.
func TestResultsStay(t *testing.T) {
	list := lexed(t, "{"+everyStatement+"}")
	block, _, _ := stmt.Block(list, 0, 0)
	kept := copies(block, 0)
	for i := range list {
		list[i] = api.Tok{Kind: api.KName, Text: "x"}
	}
	stmt.Block(lexed(t, "{ zz = yy; if a { f(); } }"), 0, 0)
	stmt.Block(lexed(t, "{ zz = yy; if a { f();"), 0, 0)
	if !slices.EqualFunc(block, kept, equal) {
		t.Errorf("%+v became %+v", kept, block)
	}
}
