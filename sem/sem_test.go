package sem_test

import (
	"slices"
	"testing"

	"runrig/api"
	"runrig/prog"
	"runrig/sem"
	"runrig/show"
)

// enough is more fuel than the programs of these tests take that end.
const enough = 1 << 20

func exits(steps int, out ...int) api.Beh {
	return api.Beh{End: api.EndExit, Out: out, Steps: steps}
}

func traps(code, steps int, out ...int) api.Beh {
	return api.Beh{End: api.EndTrap, Code: code, Out: out, Steps: steps}
}

func stops(steps int, out ...int) api.Beh {
	return api.Beh{End: api.EndFuel, Out: out, Steps: steps}
}

// equal tells whether two runs are the same, where a list that is nil is an empty one.
func equal(a, b api.Beh) bool {
	return a.End == b.End && a.Code == b.Code && a.Steps == b.Steps && slices.Equal(a.Out, b.Out)
}

// parsed is the program of a text that is one.
func parsed(t *testing.T, s string) api.Prog {
	t.Helper()
	p, fault := prog.Parse(s)
	if fault != (api.Fault{}) {
		t.Fatalf("Parse(%q): %v", s, fault)
	}
	return p
}

func checkProg(t *testing.T, p api.Prog, in []int, fuel int, want api.Beh) {
	t.Helper()
	if got := sem.Run(p, in, fuel); !equal(got, want) {
		t.Errorf("Run(%s, %v, %d) = %+v; want %+v", show.Print(p), in, fuel, got, want)
	}
}

func checkText(t *testing.T, s string, in []int, fuel int, want api.Beh) {
	t.Helper()
	if got := sem.Run(parsed(t, s), in, fuel); !equal(got, want) {
		t.Errorf("Run(%q, %v, %d) = %+v; want %+v", s, in, fuel, got, want)
	}
}

// context are declarations for the texts of bodies: add and the others print what they are given, so that it is to be seen
// when they are called.
const context = `record R { n: int; b: bool; r: R; a: [int]; } record E { } global g: int; global h: bool; global k: R; global l: [int];
	func say(n: int): int { print n; return n; } func not(b: bool): bool { print 7; return !b; } func sub(a: int, b: int): int { return a - b; } func none(): int { } func nobody() { } func set(n: int) { g = n; } func me(r: R): R { return r; } `

func inMain(body string) string { return context + "func main() {" + body + "}" }

// checkMain wants this of a text as the body of main.
func checkMain(t *testing.T, body string, in []int, want api.Beh) {
	t.Helper()
	if got := sem.Run(parsed(t, inMain(body)), in, enough); !equal(got, want) {
		t.Errorf("Run(%q, %v) = %+v; want %+v", body, in, got, want)
	}
}

// checkValue wants an expression of the type int to have this value, after so many steps of its own.
func checkValue(t *testing.T, expr string, steps, want int) {
	t.Helper()
	checkMain(t, "print "+expr+";", nil, exits(1+steps, want))
}

// checkTruth is checkValue for one of the type bool: that it is an integer is seen where a field of that type is set.
func checkTruth(t *testing.T, expr string, steps int, want bool) {
	t.Helper()
	out := 0
	if want {
		out = 1
	}
	checkMain(t, "if "+expr+" { print 1; } else { print 0; }", nil, exits(3+steps, out))
}

// P11.1, P11.2: the examples of the document.
func TestExamples(t *testing.T) {
	checkText(t, "func main() { print 1; }", nil, enough, exits(2, 1))
	checkText(t, "func main() { print 1; }", nil, 1, stops(1))
}

// P11.1: an EInt, an EBool and an ENull.
func TestConstants(t *testing.T) {
	checkValue(t, "0", 1, 0)
	checkValue(t, "17", 1, 17)
	checkValue(t, "9223372036854775807", 1, 9223372036854775807)
	checkTruth(t, "true", 1, true)
	checkTruth(t, "false", 1, false)
	checkTruth(t, "null R == null R", 3, true)
	checkTruth(t, "null R == k", 3, true)
	checkTruth(t, "null [int] == l", 3, true)
}

// P11.1: an EVar of a local and of a global, each with its last value.
func TestVariables(t *testing.T) {
	checkValue(t, "g", 1, 0)
	checkTruth(t, "h", 1, false)
	checkTruth(t, "k != null R", 3, false)
	checkTruth(t, "l != null [int]", 3, false)
	checkMain(t, "let x: int = 3; let y: int = 4; print x; print y; x = 5; print x; print y; y = x; x = 6; print y;", nil, exits(20, 3, 4, 5, 4, 5))
	checkMain(t, "g = 3; print g; let x: int = g; g = 4; print x; print g;", nil, exits(12, 3, 3, 4))
	checkMain(t, "print g; g = 1; print g; let g: int = 2; print g; set(9); print g;", nil, exits(17, 0, 1, 2, 2))
	checkMain(t, "if false { let g: int = 5; } g = 1; print none(); set(8); print g;", nil, exits(13, 0, 1))
	checkText(t, "global a: int; global b: int; global c: int; func main() { let x: int = 1; let y: int = 2; let z: int = 3; c = 6; b = 5; a = 4; print x; print y; print z; print a; print b; print c; }", nil, enough, exits(24, 1, 2, 3, 4, 5, 6))
	checkText(t, "global a: int; func main() { while a < 3 { print a; var a: int; a = 7; print a; step(); } } func step() { a = a + 1; }", nil, enough, exits(52, 0, 7, 1, 7, 2, 7))
}

// P11.1: records: an ENew, an EField and an SPut of a field.
func TestRecords(t *testing.T) {
	checkMain(t, "let r: R = new R; print r.n; if r.b { print 1; } if r.r == null R { print 2; } if r.a == null [int] { print 3; }", nil, exits(22, 0, 2, 3))
	checkMain(t, "let r: R = new R; r.n = 5; r.b = true; r.r = r; r.a = new [int](4); print r.n; print len(r.r.r.a); if r.r.b { print 1; } r.r.n = 6; print r.n;", nil, exits(37, 5, 4, 1, 6))
	checkMain(t, "let r: R = new R; let s: R = new R; r.n = 1; s.n = 2; print r.n; print s.n; s = r; s.n = 3; print r.n;", nil, exits(24, 1, 2, 3))
	checkTruth(t, "new E == new E", 3, false)
	checkTruth(t, "new E != null E", 3, true)
	checkMain(t, "k = new R; k.n = 4; me(k).n = me(k).n + 1; print k.n;", nil, exits(20, 5))
}

// P11.1: arrays: an EMake, an EItem, an ELen and an SPut of an item.
func TestArrays(t *testing.T) {
	checkValue(t, "len(new [int](0))", 3, 0)
	checkValue(t, "len(new [int](50))", 3, 50)
	checkValue(t, "new [int](3)[2]", 4, 0)
	checkTruth(t, "new [bool](3)[0]", 4, false)
	checkTruth(t, "new [R](1)[0] == null R", 6, true)
	checkMain(t, "let a: [int] = new [int](3); a[0] = 5; a[2] = 7; a[1] = a[0] + a[2]; print a[0]; print a[1]; print a[2];", nil, exits(33, 5, 12, 7))
	checkMain(t, "let a: [[bool]] = new [[bool]](2); a[0] = new [bool](1); a[1] = a[0]; a[1][0] = true; if a[0][0] { print len(a) * 10 + len(a[1]); }", nil, exits(36, 21))
	checkMain(t, "let a: [R] = new [R](2); a[1] = new R; a[1].n = 8; let r: R = a[1]; print r.n; r.r = r; print a[1].r.r.n;", nil, exits(29, 8, 8))
}

// P11.1: an ERead has the next element of the input, whatever it is.
func TestReads(t *testing.T) {
	checkMain(t, "print read();", []int{5}, exits(2, 5))
	checkMain(t, "print read() - read(); print read();", []int{5, 7, -9223372036854775808}, exits(6, -2, -9223372036854775808))
	checkMain(t, "let x: int = read(); while 0 < x { print x; x = read(); }", []int{3, 1, 0, 4}, exits(22, 3, 1))
}

// P11.1: the unary operators.
func TestUnaryOperators(t *testing.T) {
	checkValue(t, "-5", 2, -5)
	checkValue(t, "-(-5)", 3, 5)
	checkValue(t, "-(-9223372036854775807 - 1)", 5, -9223372036854775808)
	checkTruth(t, "!true", 2, false)
	checkTruth(t, "!false", 2, true)
	checkTruth(t, "!!true", 3, true)
}

// P11.1: each binary operator, with its first operand on the left.
func TestBinaryOperators(t *testing.T) {
	for _, x := range []struct {
		expr string
		want int
	}{
		{"7 + 2", 9}, {"9223372036854775807 + 2", -9223372036854775807}, {"7 - 2", 5}, {"2 - 7", -5}, {"7 * 2", 14}, {"4611686018427387904 * 2", -9223372036854775808}, {"7 / 2", 3}, {"2 / 7", 0}, {"7 % 2", 1}, {"2 % 7", 2},
	} {
		checkValue(t, x.expr, 3, x.want)
	}
	checkValue(t, "(-7) / 2", 4, -3)
	checkValue(t, "-7 % 2", 4, -1)
	checkValue(t, "7 - 2 - 1", 5, 4)
	checkValue(t, "7 - (2 - 1)", 5, 6)
	for _, x := range []struct {
		expr string
		want bool
	}{
		{"1 < 2", true}, {"2 < 2", false}, {"2 < 1", false}, {"1 <= 2", true}, {"2 <= 2", true}, {"2 <= 1", false}, {"1 == 1", true}, {"1 == 2", false}, {"1 != 1", false}, {"1 != 2", true}, {"true == true", true}, {"true != false", true},
		{"true && true", true}, {"true && false", false}, {"false && true", false}, {"false && false", false}, {"true || true", true}, {"true || false", true}, {"false || true", true}, {"false || false", false},
	} {
		checkTruth(t, x.expr, 3, x.want)
	}
}

// P11.1: both operands of && and || are always evaluated.
func TestBothOperands(t *testing.T) {
	for _, x := range []struct {
		expr string
		out  []int
	}{
		{"false && not(true)", []int{7, 2}}, {"true && not(true)", []int{7, 2}}, {"true || not(true)", []int{7, 1}}, {"false || not(true)", []int{7, 2}},
	} {
		checkMain(t, "if "+x.expr+" { print 1; } else { print 2; }", nil, exits(12, x.out...))
	}
}

// P11.1: calls: the parameters have the values of the Kids, in order, and belong to their frame alone.
func TestCalls(t *testing.T) {
	checkMain(t, "print sub(9, 2);", nil, exits(8, 7))
	checkMain(t, "print sub(sub(9, 2), sub(5, 4));", nil, exits(20, 6))
	checkMain(t, "let a: int = 9; let b: int = 1; print sub(b, a); print a; print b;", nil, exits(16, -8, 9, 1))
	checkMain(t, "set(4); print g; nobody(); say(6);", nil, exits(16, 4, 6))
	checkText(t, "func f(a: int, b: int): int { a = a + b; b = 0; let c: int = a; return c; } func main() { let b: int = 3; let a: int = 4; print f(a, b) * f(b, a); print a; print b; }", nil, enough, exits(36, 49, 4, 3))
	checkText(t, "record R { n: int; } func f(r: R) { r.n = r.n + 1; r = null R; } func main() { let r: R = new R; f(r); f(r); print r.n; }", nil, enough, exits(27, 2))
}

// P11.1: the value of a call is that of the SRet that ends the body, and 0 without one.
func TestValuesOfCalls(t *testing.T) {
	checkValue(t, "none()", 1, 0)
	checkText(t, "func f(): bool { } func main() { if f() { print 1; } else { print 2; } }", nil, enough, exits(4, 2))
	checkText(t, "record R { } func f(): R { } func a(): [int] { } func main() { if f() == null R { print 1; } if a() == null [int] { print 2; } }", nil, enough, exits(12, 1, 2))
	checkText(t, "func f(a: int): int { if a < 1 { return 5; } if a < 2 { } else { while true { while true { return 6; } } } } func main() { print f(0); print f(1); print f(2); }", nil, enough, exits(37, 5, 0, 6))
	checkText(t, "func f(a: int): int { return a; print 1; return 2; } func main() { print f(3); }", nil, enough, exits(5, 3))
	checkText(t, "func f(a: int): int { say(a); } func say(a: int): int { return a; } func main() { print f(3); }", nil, enough, exits(8, 0))
	checkText(t, "func f(a: int) { if 0 < a { return; } print a; } func main() { f(1); f(0); }", nil, enough, exits(17, 0))
}

// P11.1: a function may call itself, also by way of others, and main.
func TestRecursion(t *testing.T) {
	checkText(t, "func f(n: int): int { if n < 2 { return 1; } return n * f(n - 1); } func main() { print f(6); }", nil, enough, exits(64, 720))
	checkText(t, "func f(n: int): int { if n < 2 { return n; } return f(n - 1) + f(n - 2); } func main() { print f(7); }", nil, enough, exits(409, 13))
	checkText(t, "func even(n: int): bool { if n == 0 { return true; } return odd(n - 1); } func odd(n: int): bool { if n == 0 { return false; } return even(n - 1); } func main() { if even(4) { print 1; } if odd(4) { print 2; } }", nil, enough, exits(92, 1))
	checkText(t, "global g: int; func main() { g = g + 1; let x: int = g; if g < 3 { main(); } print x; }", nil, enough, exits(40, 3, 2, 1))
	checkText(t, "global g: int; func main() { g = g + 1; if g < 3 { main(); print g; return; } print 9; return; }", nil, enough, exits(37, 9, 3, 3))
}

// P11.1: an SIf and an SWhile.
func TestControl(t *testing.T) {
	checkMain(t, "if true { print 1; }", nil, exits(4, 1))
	checkMain(t, "if false { print 1; }", nil, exits(2))
	checkMain(t, "if true { print 1; print 2; } else { print 3; } print 4;", nil, exits(8, 1, 2, 4))
	checkMain(t, "if false { print 1; print 2; } else { print 3; } print 4;", nil, exits(6, 3, 4))
	checkMain(t, "if true { } else { print 1; }", nil, exits(2))
	checkMain(t, "if true { if false { print 1; } else { if true { print 2; } print 3; } print 4; } print 5;", nil, exits(14, 2, 3, 4, 5))
	checkMain(t, "while false { print 1; }", nil, exits(2))
	checkMain(t, "while g < 2 { g = g + 1; } print g;", nil, exits(22, 2))
	checkMain(t, "while g < 2 { g = g + 1; let i: int = 0; while i < 2 { print g * 10 + i; i = i + 1; } print 0; } print 5;", nil, exits(94, 10, 11, 0, 20, 21, 0, 5))
	checkMain(t, "while not(h) { h = true; }", nil, exits(18, 7, 7))
}

// P11.1: an SRet of main ends the run, wherever it stands.
func TestReturnsOfMain(t *testing.T) {
	checkMain(t, "return;", nil, exits(1))
	checkMain(t, "print 1; return; print 2;", nil, exits(3, 1))
	checkMain(t, "while true { if true { return; } print 1; } print 2;", nil, exits(5))
}

// P11.1: an SVar takes no step and does nothing; an SDo evaluates its call, whose value is lost.
func TestOtherStatements(t *testing.T) {
	checkMain(t, "var x: int;", nil, exits(0))
	checkMain(t, "var x: int; var y: [R]; x = 1; var z: bool; print x; var w: R;", nil, exits(4, 1))
	checkMain(t, "if true { var x: int; }", nil, exits(2))
	checkMain(t, "let x: int = 4;", nil, exits(2))
	checkMain(t, "nobody();", nil, exits(2))
	checkMain(t, "say(1); none(); say(2);", nil, exits(16, 1, 2))
	checkMain(t, "print say(1) + 2;", nil, exits(9, 1, 3))
}

// P11.2: the printed values in order, the number of steps, and nothing else.
func TestEnds(t *testing.T) {
	checkText(t, "func main() { }", nil, enough, exits(0))
	checkText(t, "func f() { print 1; } func main() { }", []int{1, 2}, enough, exits(0))
	checkMain(t, "g = 5; k = new R; print 1; print -1; print 1;", []int{1, 2}, exits(11, 1, -1, 1))
	checkMain(t, "g = 5;", nil, exits(2))
}

// P11.1: the function main may be any of the functions.
func TestMainAnywhere(t *testing.T) {
	checkText(t, "func main() { print f(); } func f(): int { return 1; }", nil, enough, exits(4, 1))
	checkText(t, "func f(): int { return 1; } func main() { print f(); } func e() { print 9; }", nil, enough, exits(4, 1))
	checkText(t, "func f(a: int): int { return a; } func e() { print 9; } func main() { print f(2); }", nil, enough, exits(5, 2))
}
