package sure_test

import (
	"slices"
	"strings"
	"testing"

	"runrig/api"
	"runrig/show"
)

// hole is a text with a `_`, where a variable of this type fits.
type hole struct{ text, of string }

// expressionHoles have the hole at each place of each kind of expression that has Kids; these are of the second type.
func expressionHoles() []struct {
	hole
	result string
} {
	return []struct {
		hole
		result string
	}{
		{hole{"_.n", "R"}, "int"}, {hole{"_[0]", "[int]"}, "int"}, {hole{"a[_]", "int"}, "int"}, {hole{"c(_, i)", "bool"}, "R"}, {hole{"c(b, _)", "int"}, "R"}, {hole{"new [int](_)", "int"}, "[int]"}, {hole{"len(_)", "[int]"}, "int"}, {hole{"-_", "int"}, "int"}, {hole{"!_", "bool"}, "bool"},
		{hole{"_ + i", "int"}, "int"}, {hole{"i + _", "int"}, "int"}, {hole{"_ - i", "int"}, "int"}, {hole{"i - _", "int"}, "int"}, {hole{"_ * i", "int"}, "int"}, {hole{"i * _", "int"}, "int"}, {hole{"_ / i", "int"}, "int"}, {hole{"i / _", "int"}, "int"}, {hole{"_ % i", "int"}, "int"}, {hole{"i % _", "int"}, "int"},
		{hole{"_ < i", "int"}, "bool"}, {hole{"i < _", "int"}, "bool"}, {hole{"_ <= i", "int"}, "bool"}, {hole{"i <= _", "int"}, "bool"}, {hole{"_ == r", "R"}, "bool"}, {hole{"r == _", "R"}, "bool"}, {hole{"_ != b", "bool"}, "bool"}, {hole{"b != _", "bool"}, "bool"},
		{hole{"_ && b", "bool"}, "bool"}, {hole{"b && _", "bool"}, "bool"}, {hole{"_ || b", "bool"}, "bool"}, {hole{"b || _", "bool"}, "bool"}, {hole{"false && _", "bool"}, "bool"}, {hole{"true || _", "bool"}, "bool"}, {hole{"_", "int"}, "int"},
	}
}

// statementHoles have the hole at each place of each kind of statement that has expressions.
func statementHoles() []hole {
	return []hole{
		{"let z: int = _;", "int"}, {"let z: R = _;", "R"}, {"i = _;", "int"}, {"b = _;", "bool"}, {"r = _;", "R"}, {"a = _;", "[int]"}, {"g = _;", "int"}, {"h = _;", "bool"}, {"k = _;", "R"}, {"l = _;", "[int]"}, {"_.n = i;", "R"}, {"r.n = _;", "int"}, {"_[i] = i;", "[int]"}, {"a[_] = i;", "int"}, {"a[i] = _;", "int"},
		{"if _ { }", "bool"}, {"if _ { } else { }", "bool"}, {"while _ { }", "bool"}, {"return _;", "int"}, {"print _;", "int"}, {"e(_);", "int"}, {"d(_, i);", "int"}, {"d(i, _);", "int"}, {"c(_, i);", "bool"},
	}
}

// checkHole wants the variable in the hole to be asked for: it is refused there without a value, and not with one.
func checkHole(t *testing.T, h hole, ahead string) {
	t.Helper()
	filled := strings.ReplaceAll(h.text, "_", "#x")
	checkBodies(t,
		ahead+"var x: "+h.of+"; "+filled,
		ahead+"var x: "+h.of+"; if b { x = "+valueOf(h.of)+"; } "+filled,
		ahead+"var x: "+h.of+"; x = "+valueOf(h.of)+"; "+strings.ReplaceAll(filled, "#", ""),
		ahead+"let x: "+h.of+" = "+valueOf(h.of)+"; "+strings.ReplaceAll(filled, "#", ""))
}

func valueOf(of string) string {
	switch of {
	case "int":
		return "1"
	case "bool":
		return "true"
	case "R":
		return "new R"
	}
	return "null " + of
}

// P9.1: each kind of statement asks for the locals in all of its expressions.
func TestStatements(t *testing.T) {
	for _, h := range statementHoles() {
		checkHole(t, h, "")
		checkHole(t, h, "var y: int; y = 2; print y; ")
		checkHole(t, hole{"if b { " + h.text + " }", h.of}, "")
		checkHole(t, hole{"if b { } else { " + h.text + " }", h.of}, "")
		checkHole(t, hole{"while b { " + h.text + " }", h.of}, "")
	}
}

// P9.1: each kind of expression asks for the locals in all of its Kids, in each statement.
func TestExpressions(t *testing.T) {
	for _, e := range expressionHoles() {
		for _, s := range statementHoles() {
			if s.of == e.result {
				checkHole(t, hole{strings.Replace(s.text, "_", "("+e.text+")", 1), e.of}, "")
			}
		}
		for _, outer := range expressionHoles() {
			if outer.of == e.result {
				text := strings.Replace(outer.text, "_", "("+e.text+")", 1)
				checkHole(t, hole{"let z: " + outer.result + " = " + text + ";", e.of}, "")
			}
		}
	}
}

// places counts how often the variable of the hole is the Kid of each index, by the kinds of expressions.
func places(e api.Expr, counts *[api.EOr + 1][3]int) {
	for i, kid := range e.Kids {
		if kid.Kind == api.EVar && kid.Name == "x" {
			counts[e.Kind][i]++
		}
		places(kid, counts)
	}
}

// kidCount is how many Kids an expression has that is not an ECall.
func kidCount(kind int) int {
	switch kind {
	case api.EInt, api.EBool, api.ENull, api.EVar, api.ENew, api.ERead:
		return 0
	case api.EField, api.EMake, api.ELen, api.ENeg, api.ENot:
		return 1
	}
	return 2
}

// P9.1: the holes are at all places that there are.
func TestAllPlacesAreThere(t *testing.T) {
	var exprs [api.EOr + 1][3]int
	for _, h := range expressionHoles() {
		p := parsed(t, inFunction("var x: "+h.of+"; let z: "+h.result+" = "+strings.Replace(h.text, "_", "x", 1)+";"))
		places(p.Funcs[len(p.Funcs)-1].Body[1].Es[0], &exprs)
	}
	for kind := 1; kind <= api.EOr; kind++ {
		if slices.Contains(exprs[kind][:kidCount(kind)], 0) {
			t.Errorf("not each Kid of the kind %d is tried: %v", kind, exprs[kind])
		}
	}
	var stmts [api.SDo + 1]int
	for _, h := range statementHoles() {
		p := parsed(t, inFunction("var x: "+h.of+"; "+strings.Replace(h.text, "_", "x", 1)))
		stmts[p.Funcs[len(p.Funcs)-1].Body[1].Kind]++
	}
	if slices.Contains(stmts[api.SLet:], 0) {
		t.Errorf("not each kind of statement is tried: %v", stmts)
	}
}

// P9.1: expressions without Kids that are no EVar ask for nothing, and no expression gives a local a value.
func TestExpressionsWithoutLocals(t *testing.T) {
	checkBodies(t, "print 1;", "print read();", "if true { } else { } while false { }", "let x: R = new R; let y: R = null R; let z: [[int]] = null [[int]];", "e(1);", "var x: int;", "return 1;",
		"var x: int; print d(1, d(read(), len(new [int](2)))); print #x;", "var x: int; e(1); print #x;", "var n: int; print r.n; print #n;", "var e: int; e(1); print #e;", "var d: int; print d(1, 2) + #d;", "var R: int; let y: R = new R; print #R;")
}

// P9.1: all other statements leave things as they are: they give no local a value, and take none away.
func TestStatementsWithoutEffect(t *testing.T) {
	for _, s := range []string{
		"", "var y: int;", "let y: int = 1;", "i = 1;", "g = 1;", "r.n = 1;", "a[0] = 1;", "if b { }", "if b { i = 1; } else { print 1; }", "if b { return 1; }", "if b { } else { return 1; }", "while b { }", "while b { i = 1; }", "while b { return 1; }", "print 1;", "e(1);", "c(b, i);",
		"if b { var y: int; }", "if b { var y: int; y = 1; } else { y = 2; } print y;", "if b { let y: int = 1; }", "while b { var y: int; }", "while b { let y: int = 1; }", "var n: int; n = 1;", "if b { if b { if b { } } }", "while b { while b { while b { } } }",
	} {
		checkBodies(t,
			"var x: int; "+s+" print #x;", "var x: int; x = 1; "+s+" print x;", "let x: int = 1; "+s+" print x;", "var z: int; var x: int; z = 1; "+s+" print z; print #x;", "var x: int; "+s+" x = 1; print x;",
			"if b { var x: int; "+s+" print #x; }", "while b { var x: int; "+s+" print #x; }", "var x: int; if b { x = 1; "+s+" } else { x = 2; } print x;", "var x: int; if b { x = 1; } else { "+s+" x = 2; } print x;", "var x: int; if b { "+s+" } else { x = 2; } print #x;")
	}
}

// P9.1: each type of local, and each number of dimensions.
func TestTypes(t *testing.T) {
	for _, name := range []string{"int", "bool", "R"} {
		for dims := range api.MaxDims + 1 {
			of := show.Type(api.Of{Name: name, Dims: dims})
			checkBodies(t,
				"var x: "+of+"; if #x == x { }", "var x: "+of+"; x = #x;", "var x: "+of+"; let y: "+of+" = #x;", "var x: "+of+"; x = "+valueOf(of)+"; if x == x { }", "let x: "+of+" = "+valueOf(of)+"; x = x;",
				"var x: "+of+"; if b { x = "+valueOf(of)+"; } let y: "+of+" = #x;", "var x: "+of+"; while b { x = "+valueOf(of)+"; } let y: "+of+" = #x;")
		}
	}
}
