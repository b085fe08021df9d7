package sure_test

import (
	"strings"
	"testing"

	"runrig/api"
	"runrig/prog"
	"runrig/sure"
)

// marked is a text without the `#` in it, which marks the place of its fault, and what Check has to tell of it: nothing if
// there is no mark.
func marked(s string) (string, api.Fault) {
	before, after, faulty := strings.Cut(s, "#")
	if !faulty {
		return s, api.Fault{}
	}
	return before + after, api.Fault{E: api.ErrType, At: len(before)}
}

// parsed is the program of a text that is one.
func parsed(t *testing.T, s string) api.Prog {
	t.Helper()
	p, fault := prog.Parse(s)
	if fault != (api.Fault{}) {
		t.Fatalf("Parse(%q): %v", s, fault)
	}
	return p
}

// checkText wants the program of a text to be refused at its mark, or to pass if it has none.
func checkText(t *testing.T, s string) {
	t.Helper()
	text, want := marked(s)
	if got := sure.Check(parsed(t, text)); got != want {
		t.Errorf("Check of %q = %v; want %v", s, got, want)
	}
}

// context are declarations for the texts of bodies.
const context = `record R { n: int; b: bool; r: R; a: [int]; } global g: int; global h: bool; global k: R; global l: [int];
	func c(b: bool, i: int): R { return new R; } func d(i: int, j: int): int { return i; } func e(i: int) { } func main() { } `

// inFunction has a text as the body of a function with a parameter of each of four types.
func inFunction(body string) string {
	return context + "func f(b: bool, i: int, r: R, a: [int]): int {" + body + "}"
}

// checkBodies wants each of the texts to be refused at its mark, as the body of that function, or to pass if it has none.
func checkBodies(t *testing.T, bodies ...string) {
	t.Helper()
	for _, body := range bodies {
		checkText(t, inFunction(body))
	}
}

// P9.1: the examples of the document.
func TestExamples(t *testing.T) {
	checkBodies(t, "var x: int; if b { x = 1; } print #x;", "var x: int; while b { x = 1; print x; }")
}

// P9.1: parameters are assigned at the beginning, all of them and nothing else.
func TestParameters(t *testing.T) {
	checkBodies(t,
		"print i;", "i = i + 1;", "r.n = a[i];", "if b { print i; } else { print len(a); } while b { r = r.r; }", "var x: int; print i; x = 2; print x + i;",
		"var x: int; print i + #x;", "var x: int; var y: int; print #y;", "var x: int; var y: int; i = 1; x = i; print i + #y;")
	checkText(t, "func main() { var x: int; print #x; }")
	checkText(t, "func main() { } func f(x: int) { print x; } func p() { var x: int; print #x; }")
	checkText(t, "func main() { } func f(x: int, y: int) { var z: int; print x + y; z = 1; } func p(z: int) { var x: int; print z; print #x; }")
}

// P9.1: a local that is declared by SVar has no value yet; one that is declared by SLet has.
func TestDeclarations(t *testing.T) {
	checkBodies(t,
		"var x: int; print #x;", "let x: int = 1; print x;", "var x: int; x = 1; print x;", "var x: int; let y: int = 1; print y; print #x;", "let y: int = 1; var x: int; print y; print #x;",
		"var x: int; let y: int = #x; print y;", "var x: int; x = 1; let y: int = x; print y;", "let x: int = 1; let y: int = x; let z: int = y + x; print z;", "var x: int; var y: int; x = 1; y = x; x = y; print x + y;",
		"var x: bool; if #x { }", "var x: R; print #x.n;", "var x: [int]; print len(#x);", "var x: [[R]]; print #x[0][0].n;", "var x: int;", "var x: int; x = 1;", "var x: int; var y: int; y = 2; print y;")
}

// P9.1: an SVar takes its local's value away each time, also where the body of a loop comes to it again.
func TestDeclarationsInLoops(t *testing.T) {
	checkBodies(t,
		"while b { var x: int; print #x; }", "while b { var x: int; x = 1; print x; }", "while b { var x: int; if b { print #x; } x = 1; }", "while b { var x: int; if b { x = 1; } print #x; }", "while b { var x: int; while b { print #x; } x = 1; }",
		"while b { while b { var x: int; x = 1; } print #x; }", "while b { let x: int = 1; print x; }", "while b { let x: int = 1; } print #x;", "while b { var x: int; x = 1; } print #x;", "while b { if b { let x: int = 1; } else { } print #x; }",
		"while b { var x: int; x = 1; while b { print x; } }", "while b { if b { return 1; } var x: int; print #x; }")
}

// P9.1: behind an SIf what both of its branches assign has a value.
func TestBranches(t *testing.T) {
	checkBodies(t,
		"var x: int; if b { x = 1; } print #x;", "var x: int; if b { x = 1; } else { } print #x;", "var x: int; if b { } else { x = 1; } print #x;", "var x: int; if b { } else { } print #x;", "var x: int; if b { } print #x;",
		"var x: int; if b { x = 1; } else { x = 2; } print x;", "var x: int; x = 1; if b { } print x;", "var x: int; x = 1; if b { x = 2; } print x;", "var x: int; x = 1; if b { } else { x = 2; } print x;", "var x: int; if b { print 1; x = 1; print x; } else { x = 2; print x; print 2; } print x;",
		"var x: int; if b { x = 1; print x; } else { print #x; }", "var x: int; if b { print #x; } else { x = 1; print x; }", "var x: int; x = 1; if b { print x; } else { print x; } print x;", "var x: int; if b { x = 1; } if !b { print #x; }", "var x: int; if true { x = 1; } print #x;", "var x: int; if false { print #x; }",
		"var x: int; var y: int; if b { x = 1; } else { y = 1; } print #x;", "var x: int; var y: int; if b { x = 1; } else { y = 1; } print #y;", "var x: int; var y: int; if b { x = 1; y = 1; } else { y = 1; } print y; print #x;", "var x: int; var y: int; if b { y = 1; x = 1; } else { x = 1; y = 1; } print y; print x;")
}

// P9.1: a branch that returns does not take part in what comes behind its SIf.
func TestBranchesThatReturn(t *testing.T) {
	checkBodies(t,
		"var x: int; if b { x = 1; } else { return 1; } print x;", "var x: int; if b { return 1; } else { x = 1; } print x;", "var x: int; if b { return 1; } print #x;", "var x: int; if b { return 1; } else { } print #x;", "var x: int; if b { } else { return 1; } print #x;", "var x: int; if b { return 1; } else { return 2; } print x;",
		"var x: int; if b { x = 1; return x; } print #x;", "var x: int; if b { return #x; } x = 1;", "var x: int; if b { x = 1; } else { if b { return 1; } else { x = 2; } } print x;", "var x: int; if b { x = 1; } else { if b { return 1; } } print #x;", "var x: int; if b { return 1; } else { return #x; }",
		"if b { return 1; } else { let x: int = 1; } print x;", "if b { let x: int = 1; } else { return 1; } print x;", "if b { return 1; } else { var x: int; } print #x;", "if b { var x: int; } else { return 1; } print #x;", "var x: int; var y: int; if b { x = 1; } else { return 1; } print x; print #y;",
		"var x: int; while b { if b { return 1; } else { x = 1; } print x; } print #x;")
}

// P9.1: behind an SRet all locals are assigned, also those that are not yet declared; but not behind an SVar there.
func TestBehindReturns(t *testing.T) {
	checkBodies(t,
		"var x: int; return 1; print x;", "var x: int; return #x;", "var x: int; return #x; print x;", "return 1; var x: int; print #x;", "return 1; var x: int; x = 1; print x;", "return 1; let x: int = 1; print x;", "return 1; var x: int; return 2; print x;", "var x: int; return 1; var y: int; print x; print #y;",
		"return 1; if b { var x: int; } print #x;", "return 1; if b { } else { var x: int; } print #x;", "return 1; if b { var x: int; x = 1; } print x;", "return 1; if b { let x: int = 1; } print x;", "return 1; while b { var x: int; } print x;", "return 1; while b { var x: int; print #x; }", "return 1; while b { var x: int; x = 1; } print x;",
		"return 1; if b { var x: int; return 2; } print x;", "if b { return 1; var x: int; } else { } print #x;", "if b { return 1; var x: int; } else { x = 1; } print #x;", "if b { return 1; var x: int; x = 1; } else { x = 1; } print x;", "if b { return 1; var x: int; return 2; } else { x = 1; } print x;",
		"return 1; var x: int; if b { x = 1; } print #x;", "return 1; var x: int; if b { x = 1; } else { return 2; } print x;", "return 1; var x: int; if b { return 2; } print #x;", "return 1; var x: int; while b { x = 1; } print #x;", "return 1; var x: int; while b { return 2; } print #x;",
		"if b { return 1; var x: int; } else { return 1; var y: int; } print #x;", "if b { return 1; var x: int; } else { return 1; var y: int; } print #y;", "if b { return 1; var x: int; } else { return 1; var y: int; x = 1; } print #x;", "if b { return 1; } else { return 1; } var x: int; print #x;", "while b { return 1; var x: int; print #x; }")
}

// P9.1: what the body of a loop assigns has a value further down in it, and neither further up nor behind the loop.
func TestLoops(t *testing.T) {
	checkBodies(t,
		"var x: int; while b { x = 1; print x; }", "var x: int; while b { print #x; x = 1; }", "var x: int; while b { x = 1; } print #x;", "var x: int; x = 1; while b { print x; } print x;", "var x: int; x = 1; while b { print x; x = 2; } print x;", "var x: int; while b { } print #x;",
		"var x: int; while b { x = 1; } x = 2; print x;", "var x: int; while true { x = 1; } print #x;", "var x: int; while b { return 1; } print #x;", "var x: int; while b { x = 1; return x; } print #x;", "var x: int; while true { } print #x;", "var x: int; while b { return 1; print x; }",
		"var x: int; var y: int; while b { y = 1; print y; print #x; }", "var x: int; while b { x = 1; } while b { print #x; }", "var x: int; while b { if b { x = 1; } print #x; }", "var x: int; while b { if b { x = 1; } else { x = 2; } print x; } print #x;")
}

// P9.1: a condition is evaluated ahead of what it guards.
func TestConditions(t *testing.T) {
	checkBodies(t,
		"var x: int; if #x < 1 { x = 1; }", "var x: int; while #x < 1 { x = 1; }", "var x: int; x = 1; while x < 1 { x = 2; }", "var x: int; x = 1; if x < 1 { }", "var x: bool; if #x { x = true; } else { x = false; }", "var x: bool; while #x { x = true; }", "var x: bool; x = b; if x { print 1; } while x { print 2; }",
		"var x: int; if b { x = 1; } else { x = 2; } while x < 1 { }", "var x: int; while b { if #x < 1 { x = 1; } }", "var x: int; while b { x = 1; if x < 1 { } while x < 1 { } }", "var x: int; while b { while #x < 1 { x = 1; } }", "var x: int; if b { while #x < 1 { } } else { x = 1; }")
}

// P9.1: the expression of an assignment is evaluated ahead of it.
func TestOwnValues(t *testing.T) {
	checkBodies(t,
		"var x: int; x = #x;", "var x: int; x = #x + 1;", "var x: int; x = d(1, #x); print x;", "var x: int; x = 1; x = x + 1; print x;", "var x: R; x = #x.r;", "var x: R; x = null R; x = x.r;", "var x: [int]; x = new [int](len(#x));", "var x: [int]; x = new [int](1); x[0] = x[0];",
		"let g: int = g; print g;", "let g: int = g + 1; g = g + 1; print g;", "print g; var g: int; print #g;", "var g: int; g = #g;", "var i1: int; let x: int = #i1;")
}

// P9.1: a write to a field or to an item asks for the object, and gives nothing a value.
func TestWrites(t *testing.T) {
	checkBodies(t,
		"var x: R; #x.n = 1;", "var x: [int]; #x[0] = 1;", "var x: [int]; #x[0] = 1; print x[0];", "var x: R; #x.r.r.n = 1;", "var x: R; #x.a[0] = 1;", "var x: [R]; #x[0].n = 1;", "var x: R; x = new R; x.n = 1; print x.n;", "var x: [int]; x = new [int](1); x[0] = 1;", "var x: int; a[#x] = 1;", "var x: int; r.a[#x] = 1;",
		"var x: int; r.n = #x;", "var x: int; a[0] = #x;", "var x: R; r.r = #x;", "var x: R; #x.r = x;", "var x: R; #x.n = x.n;", "var x: int; a[#x] = x;", "var n: int; r.n = 1; print #n;", "var n: int; var x: R; x = r; x.n = 1; print #n;")
}

// P9.1: conditionals and loops within each other.
func TestNesting(t *testing.T) {
	checkBodies(t,
		"var x: int; if b { if b { x = 1; } else { x = 2; } } else { x = 3; } print x;", "var x: int; if b { if b { x = 1; } else { x = 2; } } print #x;", "var x: int; if b { if b { x = 1; } } else { x = 3; } print #x;", "var x: int; if b { if b { x = 1; } else { x = 2; } print x; } else { print #x; }",
		"var x: int; if b { while b { x = 1; } } else { x = 1; } print #x;", "var x: int; if b { while b { x = 1; } x = 2; } else { x = 1; } print x;", "var x: int; while b { while b { x = 1; } print #x; }", "var x: int; while b { x = 1; while b { print x; } print x; } print #x;", "var x: int; while b { if b { while b { if b { x = 1; } print #x; } } }",
		"var x: int; if b { x = 1; if b { print x; } else { print x; } while b { print x; } } else { if b { print #x; } }", "var x: int; if b { } else { if b { } else { if b { } else { x = 1; } print #x; } }", "var x: int; if b { x = 1; } else { if b { x = 1; } else { if b { x = 1; } else { x = 1; } print x; } } print x;",
		"var x: int; var y: int; if b { x = 1; if b { y = 1; } else { y = 2; } print x + y; } else { y = 1; } print y; print #x;", "var x: int; var y: int; while b { x = 1; while b { y = 1; print x + y; } print x; print #y; }", "var x: int; if b { return 1; } else { while b { return 1; } print #x; }")
}

// P9.1: a local that is declared in one block may be read in another, where it has a value on all ways that lead there.
func TestOtherBlocks(t *testing.T) {
	checkBodies(t,
		"if b { var x: int; x = 1; } print #x;", "if b { var x: int; x = 1; } else { x = 2; } print x;", "if b { let x: int = 1; } else { x = 2; } print x;", "if b { let x: int = 1; } print #x;", "if b { let x: int = 1; } else { print #x; }", "if b { } else { let x: int = 1; } print #x;", "if b { var x: int; x = 1; print x; } else { print #x; }",
		"if b { var x: int; } else { x = 1; print x; }", "if b { var x: int; } x = 1; print x;", "if b { var x: int; } else { x = 1; } print #x;", "while b { let x: int = 1; } x = 2; print x;", "while b { let x: int = 1; } while b { x = 2; print x; }", "while b { let x: int = 1; } while b { print #x; }", "while b { if b { let x: int = 1; } else { x = 1; } print x; }",
		"if b { let x: int = 1; } else { let y: int = 1; } print #x;", "if b { let x: int = 1; } else { let y: int = 1; } print #y;", "if b { if b { let x: int = 1; } else { x = 2; } } else { x = 3; } print x;")
}

// P9.1: a global is never asked for, and an assignment to it says nothing of any local.
func TestGlobals(t *testing.T) {
	checkBodies(t, "print g;", "print g + len(l) + k.n;", "if h { } while h { }", "k.n = 1; l[0] = g;", "g = g + 1;", "var x: int; print g; g = 1; print #x;", "var x: int; g = #x;", "print g; g = 1; let g: int = g; print g;", "g = 1; var g: int; print #g;", "if b { g = 1; let g: int = 2; } else { g = 1; } print g;", "if b { var g: int; } else { print #g; }")
	// Globals and locals are both numbered from 0: here each local meets each global of its number, and the next ones.
	for _, x := range []string{"x", "y", "z"} {
		for _, assigned := range []string{"A", "B", "C", "D", "E"} {
			for _, read := range []string{"x", "y", "z", "A", "B", "C", "D", "E"} {
				mark := "#"
				if read == x || read < "F" {
					mark = ""
				}
				checkText(t, "global A: int; global B: int; global C: int; global D: int; global E: int; func main() { var x: int; var y: int; var z: int; "+x+" = 1; "+assigned+" = 1; print "+mark+read+"; }")
			}
		}
	}
}
