package sure_test

import (
	"strings"
	"testing"

	"runrig/api"
	"runrig/sure"
	"runrig/typed"
)

// P9.1: of two uses in one expression the first one counts, however the Kids are nested.
func TestTwoUsesInOneExpression(t *testing.T) {
	ahead := "var x: int; var y: int; var u: bool; var v: bool; var p: R; var q: [int]; "
	for _, e := range []string{
		"#x + y", "#y + x", "#x + x", "1 + #y * x", "(#x + y) * (y + x)", "d(#x, y)", "d(#y, x)", "d(1, #x) + y", "d(d(d(1, #y), x), x)", "#q[x]", "a[#x + y]", "#q[0] + x", "#p.n + x", "-#x + -y", "#p.r.r.n / y", "len(#q) - len(q)", "len(new [int](#x)) - y", "c(#u, x).n", "c(b, #x).n + c(u, y).n", "c(#u && v, x).n",
		"c(#x < y, 1).n", "d(i, i + (i + (i + #x))) + y", "a[a[a[#y]]] + x", "1 + 2 * (3 - #y) % x",
	} {
		checkBodies(t, ahead+"print "+e+";", ahead+"i = "+e+";", ahead+"return "+e+";", ahead+"r.n = "+e+";", ahead+"e("+e+");", ahead+"while 1 < "+e+" { }", ahead+"let z: int = "+e+";")
	}
	for _, e := range []string{"#u && v", "#v || u", "#u == v", "#v != u", "!#u && !v", "#x < y", "#y <= x", "#p == p.r", "b && #v || u", "(#u || b) == (v && b)", "#q == q", "i < #y && u"} {
		checkBodies(t, ahead+"if "+e+" { print x; }", ahead+"while "+e+" { print x; } print y;", ahead+"h = "+e+";")
	}
	// Where one of them has a value, the other one counts.
	checkBodies(t, ahead+"x = 1; print x + #y;", ahead+"y = 1; print #x + y;", ahead+"x = 1; print x + x * #y;", ahead+"x = 1; y = 1; print x + y;", ahead+"x = 1; print d(x, #y);", ahead+"q = a; print q[#x];", ahead+"x = 1; print #q[x];")
}

// P9.1: of two uses in one statement the first one counts: the first expression of an SPut, the condition ahead of Body, Body
// ahead of Else.
func TestTwoUsesInOneStatement(t *testing.T) {
	checkBodies(t,
		"var x: int; var y: int; a[#x] = y;", "var x: int; var y: int; a[#y] = x;", "var x: R; var y: R; #x.r = y;", "var x: R; var y: R; #y.r = x;", "var x: R; x = r; var y: R; x.r = #y;", "var x: [int]; var y: int; #x[y] = y;", "var x: [int]; var y: int; y = 1; #x[y] = x[y];",
		"var x: int; var y: int; if #x < 1 { print y; } else { print y; }", "var x: int; var y: int; if b { print #y; } else { print x; }", "var x: int; var y: int; if b { y = 1; print y; } else { print #x; }", "var x: int; var y: int; if b { while b { print #y; } } else { print x; } print x;",
		"var x: int; var y: int; while #x < 1 { print y; }", "var x: int; var y: int; while b { if b { } else { print #y; } } print x;", "var x: int; if b { print #x; } print x;", "var x: int; while b { print #x; } print x;", "var x: int; print #x; print x;", "var x: int; var y: int; if b { x = 1; print x; } else { if #y < 1 { } print x; }")
}

// faultyBlocks are statements with a use that is refused, where x and y are declared; what they declare themselves is named z.
func faultyBlocks() []string {
	return []string{
		"print #x;", "print #y;", "print 1 + #x;", "x = #x;", "y = #x + 1;", "i = #y;", "g = #y;", "let z: int = #x;", "var z: int; print #z;", "a[#x] = y;", "a[0] = #y;", "if #x < 1 { }", "if b { print #x; }", "if b { x = 1; } else { print #x; }", "if b { x = 1; } print #x;", "while #x < 1 { }", "while b { x = 1; y = #y; }", "while b { y = 1; } print #y;",
		"return #x;", "e(#y);", "if b { return 1; } print #x;", "if b { return 1; } else { return #y; }", "if b { x = 1; if b { y = #y; } }", "if b { y = 1; } else { y = 2; } print y; print #x;", "return 1; var z: int; print #z;",
	}
}

// P9.1: of two statements the first one counts that is refused, however they stand to each other.
func TestFirstOfTwoStatements(t *testing.T) {
	for _, first := range faultyBlocks() {
		for _, second := range faultyBlocks() {
			second = strings.NewReplacer("#", "", "z", "w").Replace(second)
			for _, s := range []string{"$ @", "if b { $ @ }", "if b { $ } else { @ }", "if b { i = 1; $ } @", "if b { } else { $ } @", "while b { $ } @", "while b { print i; $ @ }", "while b { if b { $ } else { } } @", "if b { while b { $ } } else { @ }", "while b { while b { i = 1; } if b { } else { $ } @ }"} {
				checkBodies(t, "var x: int; var y: int; "+strings.NewReplacer("$", first, "@", second).Replace(s))
			}
		}
	}
}

// P9.1: of two functions the first one counts, whichever of them is main, and wherever they are called.
func TestFirstOfTwoFunctions(t *testing.T) {
	checkText(t, "func f() { var x: int; print #x; } func main() { var x: int; print x; }")
	checkText(t, "func main() { var x: int; print #x; } func f() { var x: int; print x; }")
	checkText(t, "func main() { f(); } func f() { var x: int; x = 1; print x; } func p() { var x: int; print #x; } func q() { var x: int; print x; }")
	checkText(t, "func f() { g(); var x: int; print #x; } func g() { var x: int; print x; f(); } func main() { g(); }")
	checkText(t, "func f() { return; } func g() { var x: int; print #x; } func main() { }")
	checkText(t, "func f() { let x: int = 1; print x; } func g() { var x: int; if true { x = 1; } print #x; } func main() { }")
	checkText(t, "func f(): int { var x: int; x = 1; return x; } func main() { print f(); } func g(x: int): int { return x; }")
	checkText(t, "func main() { } func f(a: int) { print a; } func g() { var a: int; print #a; } func h() { var b: int; print b; }")
}

// P9.1: a fault of the type checker counts ahead of all else, wherever it is.
func TestTypesFirst(t *testing.T) {
	for _, s := range []string{
		"func main() { var x: int; print x; #print true; }", "func main() { var x: int; print x; } func f() { #print true; }", "func main() { var x: int; #print true; print x; }", "func main() { var x: int; print x; #x = true; }", "func main() { var x: int; print x; #var x: int; }", "func main() { var x: int; print x #+ true; }",
		"func main() { var x: int; if x < 1 { print x; } else { print #y; } }", "func main() { var x: int; return; #print true; }", "func main() { var x: int; while x < 1 { #x = false; } }", "func main() { print #x; var x: int; print x; }", "func main() { let x: int = #x; }", "func main() { var x: int; #return x; }", "func main() { var x: bool; #print x; }",
		"func main() { var x: int; print x; } func #main() { }", "func main() { var x: int; print x; } record R { } record #R { }", "func main() { var x: int; print x; } global #g: X;", "#func f() { var x: int; print x; }", "#func main(x: int) { var y: int; print y; }",
	} {
		checkText(t, s)
		text, want := marked(s)
		if _, fault := typed.Check(parsed(t, text)); fault != want {
			t.Errorf("%q is not refused by the type checker at its mark: %v", s, fault)
		}
	}
	for _, p := range []api.Prog{{}, {Funcs: []api.Func{}}, {Funcs: []api.Func{{Name: "f", At: 3}}}, {Funcs: []api.Func{{Name: "main", Has: true, Result: api.Of{Name: "int"}, At: 3}}}} {
		if got := sure.Check(p); got != (api.Fault{E: api.ErrType}) {
			t.Errorf("Check(%+v) = %v", p, got)
		}
	}
}
