package expr_test

import (
	"math"
	"reflect"
	"slices"
	"strings"
	"testing"
	"unsafe"

	"runrig/api"
	"runrig/expr"
	"runrig/lex"
)

// lexed are the tokens of a text, with the KEnd.
func lexed(t *testing.T, s string) []api.Tok {
	t.Helper()
	list, fault := lex.Tokens(s)
	if fault != (api.Fault{}) {
		t.Fatalf("Tokens(%q): %v", s, fault)
	}
	return list
}

func node(kind, at int, kids ...api.Expr) api.Expr { return api.Expr{Kind: kind, At: at, Kids: kids} }
func variable(name string, at int) api.Expr        { return api.Expr{Kind: api.EVar, Name: name, At: at} }
func number(n, at int) api.Expr                    { return api.Expr{Kind: api.EInt, N: n, At: at} }

func field(at int, of api.Expr, name string) api.Expr {
	return api.Expr{Kind: api.EField, Name: name, At: at, Kids: []api.Expr{of}}
}

func call(at int, name string, kids ...api.Expr) api.Expr {
	return api.Expr{Kind: api.ECall, Name: name, At: at, Kids: kids}
}

func typed(kind, at int, name string, dims int, kids ...api.Expr) api.Expr {
	return api.Expr{Kind: kind, Of: api.Of{Name: name, Dims: dims}, At: at, Kids: kids}
}

// equal holds all fields against each other, At too; a nil list of Kids is an empty one (W5).
func equal(a, b api.Expr) bool {
	kids := slices.EqualFunc(a.Kids, b.Kids, equal)
	a.Kids, b.Kids = nil, nil
	return kids && reflect.DeepEqual(a, b)
}

// checkParsed wants this expression, places included, and the index behind it.
func checkParsed(t *testing.T, list []api.Tok, at, open int, want api.Expr, end int) {
	t.Helper()
	got, gotEnd, fault := expr.Parse(list, at, open)
	if fault != (api.Fault{}) || gotEnd != end || !equal(got, want) {
		t.Errorf("Parse(%v, %d, %d) = %+v, %d, %v; want %+v, %d", list, at, open, got, gotEnd, fault, want, end)
	}
}

// checkText wants the whole text to be this expression.
func checkText(t *testing.T, s string, want api.Expr) {
	t.Helper()
	list := lexed(t, s)
	checkParsed(t, list, 0, 0, want, len(list)-1)
}

// checkRefused wants this fault, and zero values beside it (W3).
func checkRefused(t *testing.T, list []api.Tok, at, open int, want api.Fault) {
	t.Helper()
	got, end, fault := expr.Parse(list, at, open)
	if fault != want || end != 0 || !reflect.DeepEqual(got, api.Expr{}) {
		t.Errorf("Parse(%v, %d, %d) = %+v, %d, %v; want %v", list, at, open, got, end, fault, want)
	}
}

func checkBadText(t *testing.T, s string, open int, e api.Errno, at int) {
	t.Helper()
	checkRefused(t, lexed(t, s), 0, open, api.Fault{E: e, At: at})
}

func checkOf(t *testing.T, list []api.Tok, at int, want api.Of, end int) {
	t.Helper()
	if got, gotEnd, fault := expr.Of(list, at); fault != (api.Fault{}) || got != want || gotEnd != end {
		t.Errorf("Of(%v, %d) = %v, %d, %v; want %v, %d", list, at, got, gotEnd, fault, want, end)
	}
}

func checkBadOf(t *testing.T, list []api.Tok, at int, want api.Fault) {
	t.Helper()
	if got, end, fault := expr.Of(list, at); fault != want || got != (api.Of{}) || end != 0 {
		t.Errorf("Of(%v, %d) = %v, %d, %v; want %v", list, at, got, end, fault, want)
	}
}

// brackets are n times a text, something, and n times another text.
func brackets(n int, left, inner, right string) string {
	return strings.Repeat(left, n) + inner + strings.Repeat(right, n)
}

// P3.1: types of all bases, up to MaxDims dimensions.
func TestTypes(t *testing.T) {
	for _, name := range []string{"int", "bool", "a", "R2", "abcdefgh"} {
		for dims := range api.MaxDims + 1 {
			list := lexed(t, brackets(dims, "[", name, "]")+" = ]")
			checkOf(t, list, 0, api.Of{Name: name, Dims: dims}, 2*dims+1)
			checkOf(t, slices.Concat(lexed(t, "x : [ ["), list), 5, api.Of{Name: name, Dims: dims}, 2*dims+6)
		}
	}
}

// P3.1: a type ends where its brackets are closed, whatever follows.
func TestTypesEndThere(t *testing.T) {
	checkOf(t, lexed(t, "a b"), 0, api.Of{Name: "a"}, 1)
	checkOf(t, lexed(t, "a]"), 0, api.Of{Name: "a"}, 1)
	checkOf(t, lexed(t, "int[3]"), 0, api.Of{Name: "int"}, 1)
	checkOf(t, lexed(t, "[bool]]"), 0, api.Of{Name: "bool", Dims: 1}, 3)
	checkOf(t, lexed(t, "a")[:1], 0, api.Of{Name: "a"}, 1)
	checkOf(t, lexed(t, "[[a]]"), 1, api.Of{Name: "a", Dims: 1}, 4)
}

// P3.1: one dimension too many is reported at its bracket, before anything that follows.
func TestTypesOfTooManyDims(t *testing.T) {
	for _, rest := range []string{"", "a]]]]", "a", "]", "[[[[", "+"} {
		s := strings.Repeat("[", api.MaxDims+1) + rest
		checkBadOf(t, lexed(t, s), 0, api.Fault{E: api.ErrLimit, At: api.MaxDims})
		checkBadText(t, "null "+s, 0, api.ErrLimit, 5+api.MaxDims)
		checkBadText(t, "new ["+s, 0, api.ErrLimit, 5+api.MaxDims)
	}
}

// P3.1: the first token that is not allowed in a type, whatever follows.
func TestTypesThatAreNone(t *testing.T) {
	for _, rest := range []string{"", " a ] ]", " [ [ [ ["} {
		for _, s := range []string{"1", "true", "null", "record", "read", "var", ")", "]", "{", "+", ",", ";", "-", "."} {
			checkBadOf(t, lexed(t, s+rest), 0, api.Fault{E: api.ErrParse, At: 0})
			checkBadOf(t, lexed(t, "["+s+rest), 0, api.Fault{E: api.ErrParse, At: 1})
			checkBadOf(t, lexed(t, "[["+s+rest), 0, api.Fault{E: api.ErrParse, At: 2})
		}
		for _, s := range []string{"[", "a", "1", ")", "+", "int", "}"} {
			checkBadOf(t, lexed(t, "[[a "+s+rest), 0, api.Fault{E: api.ErrParse, At: 4})
			checkBadOf(t, lexed(t, "[[a] "+s+rest), 0, api.Fault{E: api.ErrParse, At: 5})
		}
	}
	for _, s := range []string{"", "[", "[[", "[[a", "[[a]", "[int", "[[["} {
		checkBadOf(t, lexed(t, s), 0, api.Fault{E: api.ErrParse, At: len(s)})
	}
}

// P3.1: an index without a token has a KEnd at offset 0.
func TestIndexWithoutToken(t *testing.T) {
	refused := api.Fault{E: api.ErrParse}
	list := lexed(t, "  a")
	for _, at := range []int{math.MinInt, -2, -1, 2, 3, math.MaxInt} {
		checkRefused(t, list, at, 0, refused)
		checkBadOf(t, list, at, refused)
	}
	checkRefused(t, list, 1, 0, api.Fault{E: api.ErrParse, At: 3})
	for _, none := range [][]api.Tok{nil, {}, make([]api.Tok, 0, 5)} {
		for _, at := range []int{-1, 0, 1} {
			checkRefused(t, none, at, 0, refused)
			checkBadOf(t, none, at, refused)
		}
	}
}

// P3.1: where the list ends without a KEnd, the place of a fault is offset 0, and a complete expression ends there.
func TestListWithoutEnd(t *testing.T) {
	for _, s := range []string{"a +", "(a", "a[1", "f(", "f(a", "f(a,", "-", "!", "len", "len(", "read", "read(", "new", "null", "new [a](1", "a."} {
		list := lexed(t, s)
		checkRefused(t, list[:len(list)-1], 0, 0, api.Fault{E: api.ErrParse})
		checkBadText(t, s, 0, api.ErrParse, len(s))
	}
	for _, s := range []string{"[", "[a", "[[a]"} {
		list := lexed(t, s)
		checkBadOf(t, list[:len(list)-1], 0, api.Fault{E: api.ErrParse})
	}
	for _, s := range []string{"a", "a+b", "f()", "-a.b"} {
		list := lexed(t, s)
		want, end, _ := expr.Parse(list, 0, 0)
		checkParsed(t, list[:len(list)-1], 0, 0, want, end)
	}
}

// P3.1: tokens beyond the list are not read, though the slice has room for them.
func TestOnlyTheListIsRead(t *testing.T) {
	list := lexed(t, "a + b")
	checkRefused(t, list[:2], 0, 0, api.Fault{E: api.ErrParse})
	checkParsed(t, list[:1], 0, 0, variable("a", 0), 1)
}

// P3.1: every primary expression, its fields and its place.
func TestPrimaryExpressions(t *testing.T) {
	checkText(t, " 0", number(0, 1))
	checkText(t, " 9223372036854775807", number(math.MaxInt, 1))
	checkText(t, " true", api.Expr{Kind: api.EBool, N: 1, At: 1})
	checkText(t, " false", api.Expr{Kind: api.EBool, At: 1})
	checkText(t, " null a", typed(api.ENull, 1, "a", 0))
	checkText(t, " null int", typed(api.ENull, 1, "int", 0))
	checkText(t, " null [[[bool]]]", typed(api.ENull, 1, "bool", 3))
	checkText(t, " new a", typed(api.ENew, 1, "a", 0))
	checkText(t, " new [a](1)", typed(api.EMake, 1, "a", 0, number(1, 9)))
	checkText(t, " new [int](b)", typed(api.EMake, 1, "int", 0, variable("b", 11)))
	checkText(t, " new [[[[bool]]]](b)", typed(api.EMake, 1, "bool", 3, variable("b", 18)))
	checkText(t, " len(a)", node(api.ELen, 1, variable("a", 5)))
	checkText(t, " len ( 1 )", node(api.ELen, 1, number(1, 7)))
	checkText(t, " read()", node(api.ERead, 1))
	checkText(t, " a", variable("a", 1))
	checkText(t, " f()", call(1, "f"))
	checkText(t, " f(a)", call(1, "f", variable("a", 3)))
	checkText(t, " f(a, 1, g(b))", call(1, "f", variable("a", 3), number(1, 6), call(9, "g", variable("b", 11))))
	checkText(t, " (a)", variable("a", 2))
	checkText(t, " ((1))", number(1, 3))
	checkText(t, "(a+b)", node(api.EAdd, 2, variable("a", 1), variable("b", 3)))
}

// P3.1: what may stand in brackets and between commas is a whole expression.
func TestWholeExpressionsInside(t *testing.T) {
	sum := func(at int) api.Expr { return node(api.EOr, at+1, variable("a", at), variable("b", at+3)) }
	checkText(t, "(a||b)", sum(1))
	checkText(t, "x[a||b]", node(api.EItem, 1, variable("x", 0), sum(2)))
	checkText(t, "f(a||b,a||b)", call(0, "f", sum(2), sum(7)))
	checkText(t, "len(a||b)", node(api.ELen, 0, sum(4)))
	checkText(t, "new[x](a||b)", typed(api.EMake, 0, "x", 0, sum(7)))
	checkText(t, "-(a||b)", node(api.ENeg, 0, sum(2)))
}

// P3.1: postfix operators follow any primary expression, any number of them.
func TestPostfixOperators(t *testing.T) {
	a := variable("a", 0)
	checkText(t, "a.b", field(1, a, "b"))
	checkText(t, "a.b.c", field(3, field(1, a, "b"), "c"))
	checkText(t, "a[1]", node(api.EItem, 1, a, number(1, 2)))
	checkText(t, "a[1][b]", node(api.EItem, 4, node(api.EItem, 1, a, number(1, 2)), variable("b", 5)))
	checkText(t, "a.b[1].c", field(6, node(api.EItem, 3, field(1, a, "b"), number(1, 4)), "c"))
	checkText(t, "a[b[c]]", node(api.EItem, 1, a, node(api.EItem, 3, variable("b", 2), variable("c", 4))))
	checkText(t, "1.b", field(1, number(1, 0), "b"))
	checkText(t, "true[1]", node(api.EItem, 4, api.Expr{Kind: api.EBool, N: 1}, number(1, 5)))
	checkText(t, "f().b", field(3, call(0, "f"), "b"))
	checkText(t, "read().b", field(6, node(api.ERead, 0), "b"))
	checkText(t, "len(a)[1]", node(api.EItem, 6, node(api.ELen, 0, variable("a", 4)), number(1, 7)))
	checkText(t, "new a.b", field(5, typed(api.ENew, 0, "a", 0), "b"))
	checkText(t, "new [a](1)[2]", node(api.EItem, 10, typed(api.EMake, 0, "a", 0, number(1, 8)), number(2, 11)))
	checkText(t, "null [a].b", field(8, typed(api.ENull, 0, "a", 1), "b"))
	checkText(t, "null a[1]", node(api.EItem, 6, typed(api.ENull, 0, "a", 0), number(1, 7)))
	checkText(t, "(a+b).c", field(5, node(api.EAdd, 2, variable("a", 1), variable("b", 3)), "c"))
	checkText(t, "(-a)[1]", node(api.EItem, 4, node(api.ENeg, 1, variable("a", 2)), number(1, 5)))
}

// P3.1: a unary operator takes all postfix operators of its operand, and no binary one.
func TestUnaryOperators(t *testing.T) {
	checkText(t, "-1", node(api.ENeg, 0, number(1, 1)))
	checkText(t, "!a", node(api.ENot, 0, variable("a", 1)))
	checkText(t, "--!-a", node(api.ENeg, 0, node(api.ENeg, 1, node(api.ENot, 2, node(api.ENeg, 3, variable("a", 4))))))
	checkText(t, "-a.b", node(api.ENeg, 0, field(2, variable("a", 1), "b")))
	checkText(t, "!a[1].b", node(api.ENot, 0, field(5, node(api.EItem, 2, variable("a", 1), number(1, 3)), "b")))
	checkText(t, "-!f().b", node(api.ENeg, 0, node(api.ENot, 1, field(5, call(2, "f"), "b"))))
	for text, kind := range binaryKinds() {
		end := 2 + len(text)
		checkText(t, "-a"+text+"b", node(kind, 2, node(api.ENeg, 0, variable("a", 1)), variable("b", end)))
		checkText(t, "a "+text+"-b", node(kind, 2, variable("a", 0), node(api.ENeg, end, variable("b", end+1))))
		checkText(t, "a "+text+"!-b", node(kind, 2, variable("a", 0), node(api.ENot, end, node(api.ENeg, end+1, variable("b", end+2)))))
	}
}

// binaryKinds and binaryLevels are the table of the document once more.
func binaryKinds() map[string]int {
	return map[string]int{
		"||": api.EOr, "&&": api.EAnd, "<": api.ELess, "<=": api.ELeq, "==": api.ESame, "!=": api.EDiff,
		"+": api.EAdd, "-": api.ESub, "*": api.EMul, "/": api.EDiv, "%": api.ERem,
	}
}

func binaryLevels() map[string]int {
	return map[string]int{"||": 1, "&&": 2, "<": 3, "<=": 3, "==": 3, "!=": 3, "+": 4, "-": 4, "*": 5, "/": 5, "%": 5}
}

// P3.1: two operators: of one level they associate to the left, else the stronger one binds first.
func TestPairsOfOperators(t *testing.T) {
	levels := binaryLevels()
	for left, leftKind := range binaryKinds() {
		checkText(t, "a"+left+"b", node(leftKind, 1, variable("a", 0), variable("b", 1+len(left))))
		for right, rightKind := range binaryKinds() {
			b, second, c := 1+len(left), 2+len(left), 2+len(left)+len(right)
			want := node(rightKind, second, node(leftKind, 1, variable("a", 0), variable("b", b)), variable("c", c))
			if levels[left] < levels[right] {
				want = node(leftKind, 1, variable("a", 0), node(rightKind, second, variable("b", b), variable("c", c)))
			}
			checkText(t, "a"+left+"b"+right+"c", want)
		}
	}
}

// P3.1: many operators of one level, and one of each level in both directions.
func TestManyOperators(t *testing.T) {
	for text, kind := range binaryKinds() {
		s, want := "a", variable("a", 0)
		for range 300 {
			want = node(kind, len(s), want, variable("b", len(s)+len(text)))
			s += text + "b"
		}
		checkText(t, s, want)
	}
	checkText(t, "a||b&&c<d+e*f", node(api.EOr, 1, variable("a", 0), node(api.EAnd, 4, variable("b", 3), node(api.ELess, 7, variable("c", 6),
		node(api.EAdd, 9, variable("d", 8), node(api.EMul, 11, variable("e", 10), variable("f", 12)))))))
	checkText(t, "a*b+c<d&&e||f", node(api.EOr, 10, node(api.EAnd, 7, node(api.ELess, 5, node(api.EAdd, 3,
		node(api.EMul, 1, variable("a", 0), variable("b", 2)), variable("c", 4)), variable("d", 6)), variable("e", 9)), variable("f", 12)))
}

// P3.1: the longest expression is taken; what cannot belong to it is left alone.
func TestLongestExpression(t *testing.T) {
	for _, s := range []string{"a", "a.b", "f(a)", "f(a)[1]", "a*-b", "(a)", "read()", "new a", "new [a](1)", "null a", "-1", "true"} {
		list := lexed(t, s)
		want, end, _ := expr.Parse(list, 0, 0)
		if end != len(list)-1 {
			t.Errorf("%q ends at %d", s, end)
		}
		for _, rest := range []string{";", ")", "]", ",", "{", "}", "=", ":", "b", "1", "true", "null", "new", "len", "read", "if", "int"} {
			checkParsed(t, lexed(t, s+" "+rest), 0, 0, want, end)
		}
	}
	checkParsed(t, lexed(t, "a()()"), 0, 0, call(0, "a"), 3)
	checkParsed(t, lexed(t, "(f)(a)"), 0, 0, variable("f", 1), 3)
	checkParsed(t, lexed(t, "a ! b"), 0, 0, variable("a", 0), 1)
	checkParsed(t, lexed(t, "1(2)"), 0, 0, number(1, 0), 1)
	checkParsed(t, lexed(t, "new a(1)"), 0, 0, typed(api.ENew, 0, "a", 0), 2)
	checkParsed(t, lexed(t, "a + b ) - c"), 2, 0, variable("b", 4), 3)
	checkParsed(t, lexed(t, "x = -a ;"), 2, 0, node(api.ENeg, 4, variable("a", 5)), 4)
}

// P3.1: where an operand is due, the first token that begins none.
func TestTokensThatBeginNoOperand(t *testing.T) {
	refused := []string{"*", "/", "%", "+", "<", "<=", "==", "!=", "&&", "||", ")", "]", ",", ".", ";", "=", ":", "{", "}",
		"record", "global", "func", "var", "let", "if", "else", "while", "return", "print", "int", "bool"}
	for _, ahead := range []string{"", "-", "! ", "(", "a[", "f(1, ", "len(", "new [a](", "a+", "a*", "a&&", "a||", "a==", "a<-"} {
		checkBadText(t, ahead, 0, api.ErrParse, len(ahead))
		for _, s := range refused {
			checkBadText(t, ahead+s, 0, api.ErrParse, len(ahead))
			checkBadText(t, ahead+s+" a ) ] *", 0, api.ErrParse, len(ahead))
		}
	}
}

// P3.1: at the other places of the grammar, the first token that is not allowed.
func TestTokensThatAreNotAllowed(t *testing.T) {
	others := []string{"a", "1", "true", "int", "bool", "if", "new", "len", "read", "(", ")", "[", "]", "{", ",", ".", ";", "+", "!", "&&", "==", "="}
	for _, x := range []struct{ ahead, allowed string }{
		{"a. ", "a"}, {"null ", "a int bool ["}, {"null [", "a int bool ["}, {"null [a ", "]"}, {"null [[a] ", "]"},
		{"new ", "a ["}, {"new [", "a int bool ["}, {"new [a ", "]"}, {"new [[a] ", "]"}, {"new [a] ", "("}, {"new [a](1 ", ") . [ + && =="},
		{"len ", "("}, {"len(a ", "( ) . [ + && =="}, {"read ", "("}, {"read( ", ")"},
		{"f(1 ", ") , . [ + && =="}, {"f(1,2 ", ") , . [ + && =="}, {"a[1 ", "] . [ + && =="}, {"(1 ", ") . [ + && =="}, {"(-a ", "( ) . [ + && =="},
	} {
		checkBadText(t, x.ahead, 0, api.ErrParse, len(x.ahead))
		for _, s := range others {
			if !slices.Contains(strings.Fields(x.allowed), s) {
				checkBadText(t, x.ahead+s, 0, api.ErrParse, len(x.ahead))
				checkBadText(t, x.ahead+s+" a ) ] *", 0, api.ErrParse, len(x.ahead))
			}
		}
	}
}

// strange are tokens that the lexer never produces.
func strange() []api.Tok {
	list := []api.Tok{{Kind: api.KWord}, {Kind: api.KSign}, {Kind: api.KWord, Text: "truE"}, {Kind: api.KSign, Text: ">"}, {Kind: api.KSign, Text: "- "}}
	for _, text := range []string{"", "a", "true", "int", "(", ")", "[", "]", ".", "-", "!", ",", "+"} {
		for _, kind := range []int{api.KEnd, api.KSign + 1, -1, math.MaxInt, math.MinInt} {
			list = append(list, api.Tok{Kind: kind, Text: text, N: 1})
		}
	}
	for _, text := range []string{"(", "-", "!", "[", ".", "a", "1", "+"} {
		list = append(list, api.Tok{Kind: api.KWord, Text: text})
	}
	for _, text := range []string{"true", "null", "new", "len", "read", "a", "1", "int"} {
		list = append(list, api.Tok{Kind: api.KSign, Text: text})
	}
	return list
}

// P3.1: tokens of other kinds, or with other texts, are allowed nowhere.
func TestStrangeTokens(t *testing.T) {
	for _, token := range strange() {
		token.At = 77
		refused := api.Fault{E: api.ErrParse, At: 77}
		checkBadOf(t, []api.Tok{token}, 0, refused)
		for _, ahead := range []string{"", "-", "!", "a +", "(", "(a", "a[", "a[1", "a .", "f(", "f(a", "f(a,", "null", "null [", "null [a", "new", "new [a", "new [a]", "len", "len(", "read", "read("} {
			list := lexed(t, ahead)
			at := len(list) - 1
			list = append(list[:at:at], token)
			checkRefused(t, append(list, lexed(t, "a ) ] *")...), 0, 0, refused)
		}
		for _, ahead := range []string{"a", "f()", "-a", "a.b", "a[1]", "null a", "new a", "(a)"} {
			list := lexed(t, ahead)
			at := len(list) - 1
			want, _, _ := expr.Parse(list, 0, 0)
			checkParsed(t, append(list[:at:at], token), 0, 0, want, at)
		}
	}
}

// P3.1: the kind says what a name or a number is, whatever its other fields contain.
func TestStrangeNamesAndNumbers(t *testing.T) {
	for _, text := range []string{"", "true", "if", "(", "-", "1", "int", "\xff", "no name", strings.Repeat("long", 1000)} {
		checkParsed(t, []api.Tok{{Kind: api.KName, Text: text, N: 7, At: -3}}, 0, 0, variable(text, -3), 1)
		checkOf(t, []api.Tok{{Kind: api.KName, Text: text, N: 7, At: -3}}, 0, api.Of{Name: text}, 1)
		for _, n := range []int{0, -1, math.MinInt, math.MaxInt} {
			checkParsed(t, []api.Tok{{Kind: api.KInt, Text: text, N: n, At: math.MaxInt}}, 0, 0, number(n, math.MaxInt), 1)
		}
	}
	minus := api.Tok{Kind: api.KSign, Text: "-", N: 7, At: -9}
	checkParsed(t, []api.Tok{minus, {Kind: api.KWord, Text: "true", N: 7, At: 4}}, 0, 0, node(api.ENeg, -9, api.Expr{Kind: api.EBool, N: 1, At: 4}), 2)
	checkRefused(t, []api.Tok{minus, {Kind: api.KEnd, At: math.MinInt}}, 0, 0, api.Fault{E: api.ErrParse, At: math.MinInt})
}

// P3.1: of two errors the first one from left to right is returned.
func TestFirstFault(t *testing.T) {
	checkBadText(t, "a + ) + ]", 0, api.ErrParse, 4)
	checkBadText(t, "f(a b, * )", 0, api.ErrParse, 4)
	checkBadText(t, "null [[[[ ] + ]", 0, api.ErrLimit, 8)
	checkBadText(t, "null [[[ ] [[[[", 0, api.ErrParse, 9)
	checkBadText(t, "f(], null [[[[a]]]])", 0, api.ErrParse, 2)
	checkBadText(t, "f(null [[[[a]]]], ])", 0, api.ErrLimit, 10)
	checkBadText(t, "((a) ] (", api.MaxDeep-2, api.ErrParse, 5)
	checkBadText(t, "((a ] (", api.MaxDeep-1, api.ErrLimit, 1)
	checkBadText(t, "* (", api.MaxDeep, api.ErrParse, 0)
	checkBadText(t, "( *", api.MaxDeep, api.ErrLimit, 0)
	checkBadText(t, "len a (", api.MaxDeep, api.ErrParse, 4)
	checkBadText(t, "new [[[[[a]]]]](1)", api.MaxDeep, api.ErrLimit, 8)
	checkBadText(t, "new [a](1)", api.MaxDeep, api.ErrLimit, 7)
	checkBadText(t, "new [a)(1)", api.MaxDeep, api.ErrParse, 6)
}

// P3.1: MaxDeep may be open, and one more is refused where it opens; what is open at the beginning counts.
func TestDepths(t *testing.T) {
	for _, x := range []struct {
		left, right string
		at          int // where in the left part it opens
	}{
		{"(", ")", 0}, {"-", "", 0}, {"!", "", 0}, {"a[", "]", 1}, {"a.b[", "].c", 3}, {"f(", ")", 1}, {"f(b,", ",d)", 1}, {"len(", ")", 3},
		{"new [a](", ")", 7}, {"new [[[[int]]]](", ")", 15}, {"a<b+(", ")*d", 4},
	} {
		for _, open := range []int{math.MinInt, -7, -1, 0, 1, 2, api.MaxDeep - 3, api.MaxDeep - 1, api.MaxDeep, api.MaxDeep + 1, 1 << 40, math.MaxInt} {
			room := max(api.MaxDeep-max(open, 0), 0)
			list := lexed(t, brackets(room, x.left, "c", x.right))
			if _, end, fault := expr.Parse(list, 0, open); fault != (api.Fault{}) || end != len(list)-1 {
				t.Errorf("%d times %q while %d are open: %d, %v", room, x.left, open, end, fault)
			}
			checkBadText(t, brackets(room+1, x.left, "c", x.right), open, api.ErrLimit, room*len(x.left)+x.at)
			checkBadText(t, brackets(room+1, x.left, "", ""), open, api.ErrLimit, room*len(x.left)+x.at)
		}
	}
}

// P3.1: brackets and operators of all kinds count together.
func TestDepthsTogether(t *testing.T) {
	left, right := "f(-a[!len((new [a](", ")))])"
	opened := 7
	rounds := api.MaxDeep / opened
	rest := api.MaxDeep - rounds*opened
	s := brackets(rounds, left, strings.Repeat("-", rest)+"c", right)
	if _, _, fault := expr.Parse(lexed(t, s), 0, 0); fault != (api.Fault{}) {
		t.Errorf("%q: %v", s, fault)
	}
	checkBadText(t, s, 1, api.ErrLimit, strings.Index(s, "c")-1)
	s = brackets(rounds, left, strings.Repeat("-", rest)+"!c", right)
	checkBadText(t, s, 0, api.ErrLimit, strings.Index(s, "!c"))
}

// P3.1: what is closed is no longer open, and a unary operator is closed behind its operand.
func TestClosedIsNotOpen(t *testing.T) {
	for _, s := range []string{
		"(a)[1] + f(b) - c[d].e * len(g)", "(a)(b)", "(a)*(b)", "-a*-b", "-a-(b)", "-a+b[1]", "!a&&!b||!c", "read()+read()",
		"new [a](1)[2][3]", "a[1][2][3]", "f()[1]", "-1-1-1", "null [[[a]]]", "-a || f(b)",
	} {
		list := lexed(t, s)
		want, end, fault := expr.Parse(list, 0, 0)
		if fault != (api.Fault{}) {
			t.Errorf("%q: %v", s, fault)
		}
		checkParsed(t, list, 0, api.MaxDeep-1, want, end)
	}
	checkBadText(t, "f(-a, -b)", api.MaxDeep-1, api.ErrLimit, 2)
	checkBadText(t, "-a.b[1]", api.MaxDeep-1, api.ErrLimit, 4)
	checkBadText(t, "-f()", api.MaxDeep-1, api.ErrLimit, 2)
	checkBadText(t, "!(a)", api.MaxDeep-1, api.ErrLimit, 1)
	checkBadText(t, "-!a", api.MaxDeep-1, api.ErrLimit, 1)
	checkBadText(t, "-a*(b+-c)", api.MaxDeep-1, api.ErrLimit, 6)
	checkBadText(t, "a[b[1]]", api.MaxDeep-1, api.ErrLimit, 3)
	checkBadText(t, "read()", api.MaxDeep, api.ErrLimit, 4)
}

// P3.1: where nothing opens, it does not matter how much is open.
func TestNothingOpens(t *testing.T) {
	for _, s := range []string{"1", "true", "a.b.c", "null [[[a]]]", "new a", "a+b*c-d", "a||b&&c", "a-b"} {
		list := lexed(t, s)
		want, end, _ := expr.Parse(list, 0, 0)
		for _, open := range []int{api.MaxDeep, api.MaxDeep + 1, math.MaxInt} {
			checkParsed(t, list, 0, open, want, end)
		}
	}
}

// W1: an expression of very many tokens, in each direction in which it may grow without opening anything.
func TestLongExpressions(t *testing.T) {
	const length = 1 << 15
	for _, x := range []struct{ first, more string }{{"a", ".b"}, {"a", "+b"}, {"a", "[1]"}, {"f(a", ",a"}, {"a", "*b||c"}} {
		first, more := lexed(t, x.first), lexed(t, x.more)
		list := slices.Concat(first[:len(first)-1], slices.Repeat(more[:len(more)-1], length))
		if x.first == "f(a" {
			list = append(list, api.Tok{Kind: api.KSign, Text: ")"})
		}
		e, end, fault := expr.Parse(list, 0, 0)
		if fault != (api.Fault{}) || end != len(list) || !expr.Same(e, e) {
			t.Errorf("%q and %d times %q: %d, %v", x.first, length, x.more, end, fault)
		}
	}
}

// sample has every kind of part that an expression may have, and every field set.
func sample() api.Expr {
	kid := api.Expr{Kind: api.EInt, N: 4, Name: "k", Of: api.Of{Name: "r", Dims: 1}, At: 8, Type: api.Type{Base: 1, Rec: 2, Dims: 3}, Ref: 5}
	kid.Kids = []api.Expr{{Kind: api.EVar, Name: "z", At: 3}}
	return api.Expr{Kind: api.ECall, N: 1, Name: "f", Of: api.Of{Name: "q", Dims: 2}, Kids: []api.Expr{kid, kid, {}}, At: 9, Type: api.Type{Base: 3, Rec: 1, Dims: 1}, Ref: 2}
}

// changes are all ways to change one field of an expression, except At.
func changes() []func(e *api.Expr) {
	return []func(e *api.Expr){
		func(e *api.Expr) { e.Kind++ },
		func(e *api.Expr) { e.N++ },
		func(e *api.Expr) { e.Name += "x" },
		func(e *api.Expr) { e.Of.Name += "x" },
		func(e *api.Expr) { e.Of.Dims-- },
		func(e *api.Expr) { e.Type.Base++ },
		func(e *api.Expr) { e.Type.Rec++ },
		func(e *api.Expr) { e.Type.Dims++ },
		func(e *api.Expr) { e.Ref-- },
		func(e *api.Expr) { e.Kids = append(e.Kids, api.Expr{}) },
	}
}

// deepCopy is an equal expression in other memory, with all places moved.
func deepCopy(e api.Expr, move int) api.Expr {
	e.At += move
	kids := make([]api.Expr, 0, len(e.Kids)+1)
	for _, kid := range e.Kids {
		kids = append(kids, deepCopy(kid, move))
	}
	e.Kids = kids
	return e
}

// P3.2: places do not matter, at any depth, and every other field does.
func TestSame(t *testing.T) {
	a := sample()
	for _, move := range []int{0, 1, -1 << 60} {
		if b := deepCopy(a, move); !expr.Same(a, b) || !expr.Same(b, a) {
			t.Errorf("only the places differ, by %d", move)
		}
	}
	for i, part := range []func(e *api.Expr) *api.Expr{
		func(e *api.Expr) *api.Expr { return e },
		func(e *api.Expr) *api.Expr { return &e.Kids[0] },
		func(e *api.Expr) *api.Expr { return &e.Kids[1] },
		func(e *api.Expr) *api.Expr { return &e.Kids[1].Kids[0] },
	} {
		for j, change := range changes() {
			b := deepCopy(a, 0)
			change(part(&b))
			if expr.Same(a, b) || expr.Same(b, a) {
				t.Errorf("part %d: change %d is not seen", i, j)
			}
		}
	}
}

// P3.2: the number and the order of the Kids matter; nil Kids are no Kids (W5).
func TestSameKids(t *testing.T) {
	a, b := variable("a", 0), variable("b", 0)
	sum := func(kids ...api.Expr) api.Expr { return node(api.EAdd, 3, kids...) }
	for _, x := range []struct {
		left, right api.Expr
		same        bool
	}{
		{sum(), sum(), true}, {sum(), node(api.EAdd, 3, []api.Expr{}...), true}, {api.Expr{}, api.Expr{Kids: []api.Expr{}}, true}, {api.Expr{}, api.Expr{}, true},
		{sum(a, b), sum(a, b), true}, {sum(a, b), sum(b, a), false}, {sum(a), sum(a, a), false}, {sum(a), sum(), false},
		{sum(a, sum(b)), sum(a, sum(b)), true}, {sum(a, sum(b)), sum(sum(a), b), false}, {sum(api.Expr{}), sum(), false},
	} {
		if expr.Same(x.left, x.right) != x.same || expr.Same(x.right, x.left) != x.same {
			t.Errorf("Same(%+v, %+v) is not %t", x.left, x.right, x.same)
		}
	}
}

// P3.2: expressions that are nested as deeply as the document's bounds allow.
func TestSameOfDeepExpressions(t *testing.T) {
	chain := func(end int) api.Expr {
		e := number(end, 0)
		for range 1<<16 - 2 {
			e = node(api.ENeg, 0, e)
		}
		return e
	}
	if !expr.Same(chain(1), chain(1)) || expr.Same(chain(1), chain(2)) {
		t.Error("the innermost parts decide")
	}
}

// P3.3: parentheses around an expression, or around any operand in it, change nothing.
func TestParentheses(t *testing.T) {
	for _, s := range []string{
		"a", "1", "true", "null [a]", "new a", "new [a](1)", "len(a)", "read()", "f()", "f(a, b)", "a.b", "a[1]", "-a", "!-a.b", "a+b*c", "a*b+c", "a||b", "a-b-c",
	} {
		plain, end, _ := expr.Parse(lexed(t, s), 0, 0)
		for n := 1; n <= api.MaxDeep-4; n++ {
			got, gotEnd, fault := expr.Parse(lexed(t, brackets(n, "(", s, ")")), 0, 0)
			if fault != (api.Fault{}) || gotEnd != end+2*n || !equal(got, deepCopy(plain, n)) {
				t.Errorf("%d parentheses around %q: %+v, %d, %v", n, s, got, gotEnd, fault)
			}
		}
	}
	for _, x := range []struct{ plain, full string }{
		{"a+b*c", "((a)+((b)*(c)))"}, {"a*b+c", "((a*b)+c)"}, {"a-b-c", "((a-b)-c)"}, {"-a.b", "(-((a).b))"}, {"!-a*b", "((!(-a))*b)"},
		{"a||b&&c<d+e/f", "a||(b&&(c<(d+(e/f))))"}, {"f(a,b)[c]", "(f((a),(b))[(c)])"}, {"len(a)", "len((a))"}, {"new [a](b)", "(new [a]((b)))"},
	} {
		plain, _, _ := expr.Parse(lexed(t, x.plain), 0, 0)
		full, _, fault := expr.Parse(lexed(t, x.full), 0, 0)
		if fault != (api.Fault{}) || !expr.Same(plain, full) {
			t.Errorf("%q is not %q: %v", x.full, x.plain, fault)
		}
	}
}

// P3.3: where they group anew, parentheses are no parentheses around an expression of the text.
func TestParenthesesThatGroup(t *testing.T) {
	for _, x := range [][2]string{{"a-(b-c)", "a-b-c"}, {"(a+b)*c", "a+b*c"}, {"-(a+b)", "-a+b"}, {"(-a).b", "-a.b"}, {"(a||b)&&c", "a||b&&c"}} {
		left, _, _ := expr.Parse(lexed(t, x[0]), 0, 0)
		right, _, _ := expr.Parse(lexed(t, x[1]), 0, 0)
		if expr.Same(left, right) {
			t.Errorf("%q is %q", x[0], x[1])
		}
	}
}

// P3.3: the depth counts them: with no room left, a pair of parentheses is refused.
func TestParenthesesCount(t *testing.T) {
	for n := range api.MaxDeep + 1 {
		s := brackets(n, "(", "a+b", ")")
		if _, _, fault := expr.Parse(lexed(t, s), 0, api.MaxDeep-n); fault != (api.Fault{}) {
			t.Errorf("%q: %v", s, fault)
		}
		if n > 0 {
			checkBadText(t, s, api.MaxDeep-n+1, api.ErrLimit, n-1)
		}
	}
}

// everyPart is a text with all kinds of expressions, with names at all places where one may stand.
const everyPart = "f(aa.bb[cc], -new dd, null [[ee]]) || len(new [[int]](gg)) < read() + hh() * (ii) && !true == null bool"

// W6: the tokens are not changed, and the list's room behind its end neither.
func TestTokensStayAsTheyAre(t *testing.T) {
	list := lexed(t, everyPart+" ) [ [[ x")
	kept := slices.Clone(list)
	for end := range list {
		for at := -1; at <= end; at++ {
			expr.Parse(list[:end], at, 0)
			expr.Of(list[:end], at)
		}
	}
	if !slices.Equal(list, kept) {
		t.Errorf("%v became %v", kept, list)
	}
}

// texts and lists collect what an expression refers to.
func texts(e api.Expr) []string {
	list := []string{e.Name, e.Of.Name}
	for _, kid := range e.Kids {
		list = append(list, texts(kid)...)
	}
	return list
}

func lists(e api.Expr) [][]api.Expr {
	var all [][]api.Expr
	if cap(e.Kids) > 0 {
		all = append(all, e.Kids[:cap(e.Kids)])
	}
	for _, kid := range e.Kids {
		all = append(all, lists(kid)...)
	}
	return all
}

// overlap tells whether two pieces of memory share a byte.
func overlap(a, sizeOfA, b, sizeOfB uintptr) bool { return a < b+sizeOfB && b < a+sizeOfA }

// W6: a result shares no memory with the tokens or another result, and no two lists of it share any.
func TestResultsAreNew(t *testing.T) {
	list := lexed(t, everyPart)
	first, _, _ := expr.Parse(list, 0, 0)
	second, _, _ := expr.Parse(list, 0, 0)
	for _, name := range texts(first) {
		from := uintptr(unsafe.Pointer(unsafe.StringData(name)))
		for _, token := range list {
			other := uintptr(unsafe.Pointer(unsafe.StringData(token.Text)))
			if name != "" && token.Text != "" && overlap(from, uintptr(len(name)), other, uintptr(len(token.Text))) {
				t.Errorf("the name %q is a token's", name)
			}
		}
	}
	all := append(lists(first), lists(second)...)
	size := unsafe.Sizeof(api.Expr{})
	for i, a := range all {
		for _, b := range all[:i] {
			if overlap(uintptr(unsafe.Pointer(&a[0])), size*uintptr(len(a)), uintptr(unsafe.Pointer(&b[0])), size*uintptr(len(b))) {
				t.Errorf("%v and %v share memory", a, b)
			}
		}
	}
	for _, s := range []string{"abc", "int", "[bool]"} {
		list := lexed(t, s)
		of, _, _ := expr.Of(list, 0)
		if unsafe.StringData(of.Name) == unsafe.StringData(list[of.Dims].Text) {
			t.Errorf("the name of %v is a token's", of)
		}
	}
}

// W7: a later call, and a change of the tokens, leave a result as it is.
func TestResultsStay(t *testing.T) {
	list := lexed(t, everyPart)
	e, _, _ := expr.Parse(list, 0, 0)
	kept := deepCopy(e, 0)
	for i := range list {
		list[i] = api.Tok{Kind: api.KName, Text: "x"}
	}
	expr.Parse(lexed(t, "f(zz, yy)[1]"), 0, 0)
	expr.Parse(lexed(t, "f(zz, yy"), 0, 0)
	if !equal(e, kept) {
		t.Errorf("%+v became %+v", kept, e)
	}
}
