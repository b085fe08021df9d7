package show_test

import (
	"math"
	"strings"
	"testing"

	"runrig/api"
	"runrig/expr"
	"runrig/lex"
	"runrig/show"
)

// lexed are the tokens of a text, without the KEnd.
func lexed(t *testing.T, s string) []api.Tok {
	t.Helper()
	list, fault := lex.Tokens(s)
	if fault != (api.Fault{}) {
		t.Fatalf("Tokens(%q): %v", s, fault)
	}
	return list[:len(list)-1]
}

// parsedExpr is the expression of a text that is one as a whole.
func parsedExpr(t *testing.T, s string) api.Expr {
	t.Helper()
	list := lexed(t, s)
	e, end, fault := expr.Parse(list, 0, 0)
	if fault != (api.Fault{}) || end != len(list) {
		t.Fatalf("Parse(%q): %d, %v", s, end, fault)
	}
	return e
}

func checkType(t *testing.T, of api.Of, want string) {
	t.Helper()
	if got := show.Type(of); got != want {
		t.Errorf("Type(%v) = %q; want %q", of, got, want)
	}
}

func checkExpr(t *testing.T, e api.Expr, want string) {
	t.Helper()
	if got := show.Expr(e); got != want {
		t.Errorf("Expr(%+v) = %q; want %q", e, got, want)
	}
}

// checkText wants the expression of a text to be printed like this.
func checkText(t *testing.T, s, want string) {
	t.Helper()
	checkExpr(t, parsedExpr(t, s), want)
}

func node(kind int, kids ...api.Expr) api.Expr { return api.Expr{Kind: kind, Kids: kids} }
func number(n int) api.Expr                    { return api.Expr{Kind: api.EInt, N: n} }
func named(name string) api.Expr               { return api.Expr{Kind: api.EVar, Name: name} }

func field(of api.Expr, name string) api.Expr {
	return api.Expr{Kind: api.EField, Name: name, Kids: []api.Expr{of}}
}

func call(name string, kids ...api.Expr) api.Expr {
	return api.Expr{Kind: api.ECall, Name: name, Kids: kids}
}

func typed(kind int, name string, dims int, kids ...api.Expr) api.Expr {
	return api.Expr{Kind: kind, Of: api.Of{Name: name, Dims: dims}, Kids: kids}
}

// binaries are the binary operators with the levels of the document.
func binaries() []struct {
	sign        string
	kind, level int
} {
	return []struct {
		sign        string
		kind, level int
	}{
		{"||", api.EOr, 1}, {"&&", api.EAnd, 2}, {"<", api.ELess, 3}, {"<=", api.ELeq, 3}, {"==", api.ESame, 3}, {"!=", api.EDiff, 3},
		{"+", api.EAdd, 4}, {"-", api.ESub, 4}, {"*", api.EMul, 5}, {"/", api.EDiv, 5}, {"%", api.ERem, 5},
	}
}

func unaries() map[string]int { return map[string]int{"-": api.ENeg, "!": api.ENot} }

// sample is an expression with its text and its level.
type sample struct {
	e     api.Expr
	text  string
	level int
}

// samples are expressions of each kind.
func samples() []sample {
	x, y := named("x"), named("y")
	list := []sample{
		{number(0), "0", 7}, {number(1203), "1203", 7}, {api.Expr{Kind: api.EBool, N: 1}, "true", 7}, {api.Expr{Kind: api.EBool}, "false", 7},
		{typed(api.ENull, "R", 0), "null R", 7}, {typed(api.ENull, "int", 3), "null [[[int]]]", 7}, {x, "x", 7}, {field(x, "f"), "x.f", 7},
		{node(api.EItem, x, y), "x[y]", 7}, {call("f"), "f()", 7}, {call("f", x), "f(x)", 7}, {call("f", x, number(1), y), "f(x, 1, y)", 7},
		{typed(api.ENew, "R", 0), "new R", 7}, {typed(api.EMake, "R", 0, x), "new [R](x)", 7}, {typed(api.EMake, "bool", 3, x), "new [[[[bool]]]](x)", 7},
		{node(api.ELen, x), "len(x)", 7}, {node(api.ERead), "read()", 7},
	}
	for sign, kind := range unaries() {
		list = append(list, sample{node(kind, x), sign + "x", 6})
	}
	for _, o := range binaries() {
		list = append(list, sample{node(o.kind, x, y), "x " + o.sign + " y", o.level})
	}
	return list
}

// asOperand is the text of an expression where this level is the least that needs no parentheses.
func (s sample) asOperand(least int) string {
	if s.level < least {
		return "(" + s.text + ")"
	}
	return s.text
}

// P6.1: types of 0 to MaxDims dimensions.
func TestTypes(t *testing.T) {
	for _, name := range []string{"int", "bool", "a", "R2", "abcdefgh"} {
		for dims := range api.MaxDims + 1 {
			checkType(t, api.Of{Name: name, Dims: dims}, strings.Repeat("[", dims)+name+strings.Repeat("]", dims))
		}
	}
	checkType(t, api.Of{Name: "R", Dims: 2}, "[[R]]")
}

// P6.1: each kind of expression; what chapter 3 does not name for its kind, the text does not depend on.
func TestEachKind(t *testing.T) {
	for _, s := range samples() {
		checkExpr(t, s.e, s.text)
		moved := s.e
		moved.At, moved.Ref, moved.Type = 77, 8, api.Type{Base: api.TRec, Rec: 2, Dims: 1}
		checkExpr(t, moved, s.text)
		checkText(t, s.text, s.text)
	}
}

// P6.1: numbers are decimal, with all their digits.
func TestNumbers(t *testing.T) {
	for n, text := range map[int]string{
		0: "0", 7: "7", 10: "10", 1000000: "1000000", 1 << 32: "4294967296", math.MaxInt: "9223372036854775807", -1: "-1", math.MinInt: "-9223372036854775808",
	} {
		checkExpr(t, number(n), text)
	}
}

// P6.1: an operand of each kind on the left and on the right side of each binary operator.
func TestOperandsOfBinaryOperators(t *testing.T) {
	for _, o := range binaries() {
		for _, s := range samples() {
			checkExpr(t, node(o.kind, s.e, named("z")), s.asOperand(o.level)+" "+o.sign+" z")
			checkExpr(t, node(o.kind, named("z"), s.e), "z "+o.sign+" "+s.asOperand(o.level+1))
			for _, other := range samples() {
				checkExpr(t, node(o.kind, s.e, other.e), s.asOperand(o.level)+" "+o.sign+" "+other.asOperand(o.level+1))
			}
		}
	}
}

// P6.1: an operand of each kind behind each row of up to three unary operators.
func TestOperandsOfUnaryOperators(t *testing.T) {
	for _, s := range samples() {
		rows := []sample{{s.e, s.asOperand(6), 6}}
		for range 3 {
			var longer []sample
			for _, row := range rows {
				for sign, kind := range unaries() {
					longer = append(longer, sample{node(kind, row.e), sign + row.text, 6})
				}
			}
			for _, row := range longer {
				checkExpr(t, row.e, row.text)
				checkExpr(t, field(row.e, "f"), "("+row.text+").f")
				checkExpr(t, node(api.EMul, row.e, row.e), row.text+" * "+row.text)
			}
			rows = longer
		}
	}
}

// P6.1: a field and an item of each kind of expression.
func TestFieldsAndItems(t *testing.T) {
	for _, s := range samples() {
		of := s.asOperand(7)
		checkExpr(t, field(s.e, "g"), of+".g")
		checkExpr(t, field(field(s.e, "g"), "h"), of+".g.h")
		checkExpr(t, node(api.EItem, s.e, named("i")), of+"[i]")
		checkExpr(t, field(node(api.EItem, field(s.e, "g"), number(2)), "h"), of+".g[2].h")
		checkExpr(t, node(api.ENeg, field(s.e, "g")), "-"+of+".g")
		checkExpr(t, node(api.ENot, node(api.EItem, s.e, number(0))), "!"+of+"[0]")
	}
}

// P6.1: between brackets and commas no expression is in parentheses.
func TestExpressionsInBrackets(t *testing.T) {
	for _, s := range samples() {
		checkExpr(t, node(api.EItem, named("a"), s.e), "a["+s.text+"]")
		checkExpr(t, node(api.ELen, s.e), "len("+s.text+")")
		checkExpr(t, typed(api.EMake, "R", 1, s.e), "new [[R]]("+s.text+")")
		checkExpr(t, call("f", s.e), "f("+s.text+")")
		checkExpr(t, call("f", s.e, named("b"), s.e), "f("+s.text+", b, "+s.text+")")
	}
}

// P6.1: texts with parentheses, some of which are needed.
func TestTextsWithParentheses(t *testing.T) {
	for _, x := range [][2]string{
		{"((a + b)) + c", "a + b + c"}, {"(a + b) * c", "(a + b) * c"}, {"a+(b+c)", "a + (b + c)"}, {"a-(b-(c-d))", "a - (b - (c - d))"},
		{"((a-b)-c)-d", "a - b - c - d"}, {"a<(b<c)", "a < (b < c)"}, {"(a<b)<=(c==d)", "a < b <= (c == d)"}, {"(a&&b)||(c&&d)", "a && b || c && d"},
		{"(a||b)&&(c||d)", "(a || b) && (c || d)"}, {"(a*b)/(c%d)", "a * b / (c % d)"}, {"-(-(a))", "--a"}, {"!(-(!(a)))", "!-!a"}, {"a-(-b)", "a - -b"},
		{"(-a)-(-b)", "-a - -b"}, {"-(a-b)", "-(a - b)"}, {"(-(a)).b", "(-a).b"}, {"-((a).b)", "-a.b"}, {"!((a==b))", "!(a == b)"}, {"(!a)==b", "!a == b"},
		{"((f)[(a)])[((b+c))]", "f[a][b + c]"}, {"f((a),((b)),(c+d))", "f(a, b, c + d)"}, {"(new [[R]]((n)))[0]", "new [[R]](n)[0]"}, {"(null [R])[0]", "null [R][0]"},
		{"(new R).f", "new R.f"}, {"(read())+(len((a)))", "read() + len(a)"}, {"(((1)))", "1"}, {"a . b [ 1 ] . c", "a.b[1].c"}, {"a*(b+(c*(d+e)))", "a * (b + c * (d + e))"},
	} {
		checkText(t, x[0], x[1])
	}
}
