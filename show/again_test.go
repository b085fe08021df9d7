package show_test

import (
	"math/rand"
	"strings"
	"testing"

	"runrig/api"
	"runrig/expr"
	"runrig/lex"
	"runrig/prog"
	"runrig/show"
)

// P6.3: each type again.
func TestTypesAgain(t *testing.T) {
	for _, name := range []string{"int", "bool", "R", "abcdefgh"} {
		for dims := range api.MaxDims + 1 {
			want := api.Of{Name: name, Dims: dims}
			list := lexed(t, show.Type(want))
			if got, end, fault := expr.Of(list, 0); fault != (api.Fault{}) || end != len(list) || got != want {
				t.Errorf("%q yields %v, %d, %v; want %v", show.Type(want), got, end, fault, want)
			}
		}
	}
}

// combined are expressions of each kind that can have operands, all of them from a list.
func combined(operands []api.Expr) []api.Expr {
	var all []api.Expr
	for _, a := range operands {
		all = append(all, field(a, "f"), node(api.ELen, a), typed(api.EMake, "R", 1, a), node(api.ENeg, a), node(api.ENot, a))
		for _, b := range operands {
			all = append(all, node(api.EItem, a, b), call("g", a, b))
			for _, o := range binaries() {
				all = append(all, node(o.kind, a, b))
			}
		}
	}
	return all
}

// P6.1, P6.3: each combination of two expressions of each kind; of those made of one name, each combination of two again.
func TestCombinationsAgain(t *testing.T) {
	var operands []api.Expr
	for _, s := range samples() {
		operands = append(operands, s.e)
	}
	for _, list := range [][]api.Expr{operands, combined([]api.Expr{named("x")})} {
		for _, e := range combined(list) {
			checkExprText(t, e)
		}
	}
}

// P6.3: as much as may be open, on all ways into the depth: the text opens no more than that.
func TestDepthsAgain(t *testing.T) {
	for _, x := range []struct {
		left, right string
		opened      int
	}{
		{"(", ")", 1}, {"-", "", 1}, {"!", "", 1}, {"a + (", ")", 1}, {"a * (b + ", ")", 1}, {"(a - ", ") * b", 1}, {"a - -", "", 1}, {"-(a + ", ")", 2},
		{"a[", "]", 1}, {"f(", ")", 1}, {"f(a, ", ", b)", 1}, {"len(", ")", 1}, {"new [R](", ")", 1}, {"(-", ").f", 2},
	} {
		nested := func(n int) string { return strings.Repeat(x.left, n) + "c" + strings.Repeat(x.right, n) }
		checkExprText(t, parsedExpr(t, nested(api.MaxDeep/x.opened)))
		checkProgramText(t, parsed(t, "func f(){print "+nested((api.MaxDeep-1)/x.opened)+";}"))
	}
}

// P6.3: a text of exactly MaxText bytes is parsed again, and one of a byte more is too long.
func TestLongestText(t *testing.T) {
	begin, line, end := "func f() {\n", "  f();\n", "}\n"
	count := (api.MaxText - len(begin) - len(end)) / len(line)
	rest := api.MaxText - len(begin) - len(end) - count*len(line)
	for _, longer := range []int{0, 1} {
		p := parsed(t, "func f(){"+strings.Repeat("f();", count-1)+"f("+strings.Repeat("1", rest+longer)+");}")
		text := show.Print(p)
		if len(text) != api.MaxText+longer {
			t.Fatalf("the text has %d bytes", len(text))
		}
		if longer == 0 {
			checkProgramText(t, p)
		} else if _, fault := prog.Parse(text); fault != (api.Fault{E: api.ErrLimit}) {
			t.Errorf("a text of %d bytes: %v", len(text), fault)
		}
	}
}

// P6.3: as many declarations, fields and parameters as there may be.
func TestFullProgramAgain(t *testing.T) {
	fields := strings.Repeat("a:[b];", api.MaxFields)
	params := strings.TrimSuffix(strings.Repeat("a:[b],", api.MaxParams), ",")
	checkProgramText(t, parsed(t, strings.Repeat("func f("+params+"):R{}", api.MaxFuncs)+strings.Repeat("record R{"+fields+"}", api.MaxRecs)+strings.Repeat("global g:[[[R]]];", api.MaxGlobals)))
}

// generator makes texts by the grammar, with parentheses, white space and comments that are not needed.
type generator struct{ source *rand.Rand }

func (g generator) any(list ...string) string { return list[g.source.Intn(len(list))] }

// several are up to most texts with a separator between them.
func (g generator) several(most int, separator string, one func() string) string {
	text := ""
	for i := range g.source.Intn(most + 1) {
		if i > 0 {
			text += separator
		}
		text += one()
	}
	return text
}

func (g generator) name() string  { return g.any("a", "b", "x1", "R", "abcdefgh") }
func (g generator) param() string { return g.name() + g.any(":", " :\n") + g.typeOf() }
func (g generator) field() string { return g.param() + ";" }

func (g generator) typeOf() string {
	n := g.source.Intn(api.MaxDims + 1)
	return strings.Repeat("[", n) + g.any("int", "bool", "R", "a") + strings.Repeat("]", n)
}

// expression is at most so deep; its operands are in parentheses or not, as it comes.
func (g generator) expression(depth int) string {
	inner := func() string { return g.expression(depth - 1) }
	if depth == 0 || g.source.Intn(8) == 0 {
		return g.any("0", "17", "true", "false", "a", "x1", "read()", "f()", "new R", "null "+g.typeOf())
	}
	switch g.source.Intn(9) {
	case 0:
		return "(" + inner() + ")"
	case 1:
		return g.any("-", "!", "- ") + g.operand(depth)
	case 2:
		return g.operand(depth) + "." + g.name()
	case 3:
		return g.operand(depth) + "[" + inner() + "]"
	case 4:
		return g.any("f(", "g (") + g.several(3, ",", inner) + ")"
	case 5:
		return g.any("len(", "new["+g.typeOf()+"](") + inner() + ")"
	}
	return g.operand(depth) + g.any("||", "&&", "<", "<=", " == ", "!=", "+", " - ", "*", "/ ", "%//%\n") + g.operand(depth)
}

func (g generator) operand(depth int) string {
	text := g.expression(depth - 1)
	return g.any(text, "("+text+")")
}

// block has statements in which at most so many blocks lie within one another.
func (g generator) block(depth int) string {
	return "{" + g.several(4, g.any("", "\n", "//;\n"), func() string { return g.statement(depth) }) + "}"
}

func (g generator) statement(depth int) string {
	e := " " + g.expression(3)
	if depth > 0 && g.source.Intn(3) == 0 {
		switch g.source.Intn(3) {
		case 0:
			return "while" + e + g.block(depth-1)
		case 1:
			return "if" + e + g.block(depth-1)
		}
		return "if" + e + g.block(depth-1) + "else" + g.block(depth-1)
	}
	to := g.any(g.name(), "("+g.expression(2)+")."+g.name(), "("+g.expression(2)+")["+g.expression(2)+"]")
	return g.any("var "+g.field(), "let "+g.param()+"="+e+";", to+"="+e+";", "return;", "return"+e+";", "print"+e+";", "f("+g.several(3, ",", func() string { return g.expression(2) })+");")
}

func (g generator) declaration() string {
	switch g.source.Intn(3) {
	case 0:
		return "record " + g.name() + "{" + g.several(3, "", g.field) + "}"
	case 1:
		return "global " + g.field()
	}
	return "func " + g.name() + "(" + g.several(3, ",", g.param) + ")" + g.any("", ":"+g.typeOf()) + g.block(3)
}

// P6.1, P6.3: many expressions, the same ones in every run.
func TestManyExpressions(t *testing.T) {
	g := generator{rand.New(rand.NewSource(61))}
	for i := range 5000 {
		checkExprText(t, parsedExpr(t, g.expression(i%7)))
	}
}

// P6.2, P6.3: many programs, the same ones in every run.
func TestManyPrograms(t *testing.T) {
	g := generator{rand.New(rand.NewSource(62))}
	checked := 0
	for i := range 1000 {
		p, fault := prog.Parse(g.several(i%12, g.any("", " ", "\n\n", "// x\n"), g.declaration))
		if fault.E == api.ErrLimit {
			continue
		}
		if fault.E != api.OK {
			t.Fatalf("the grammar has made no program: %v", fault)
		}
		if _, fault := lex.Tokens(show.Print(p)); fault.E == api.OK {
			checkProgramText(t, p)
			checked++
		}
	}
	if checked < 800 {
		t.Errorf("only %d texts are short enough", checked)
	}
}
