package sem_test

import (
	"math"
	"slices"
	"testing"

	"runrig/api"
	"runrig/sem"
)

// P11.1: no fuel, and less than none, which is the same.
func TestNoFuel(t *testing.T) {
	for _, fuel := range []int{0, -1, -2, -100, math.MinInt} {
		checkText(t, "func main() { print 1; }", nil, fuel, stops(0))
		checkText(t, "func main() { while true { } }", nil, fuel, stops(0))
		checkText(t, "func main() { return; }", nil, fuel, stops(0))
		checkText(t, "func main() { main(); }", nil, fuel, stops(0))
		checkText(t, "func main() { }", nil, fuel, exits(0))
		checkText(t, "func main() { var x: int; var y: bool; }", nil, fuel, exits(0))
		checkText(t, "func main() { var x: int; print 1; }", nil, fuel, stops(0))
	}
}

// P11.1: exactly as much fuel as the run takes, and one less.
func TestLastStep(t *testing.T) {
	for _, x := range []struct {
		body string
		in   []int
		want api.Beh
		less []int // what has been printed before the last step
	}{
		{"print 1;", nil, exits(2, 1), nil},
		{"print 1; print 2;", nil, exits(4, 1, 2), []int{1}},
		{"print read();", []int{5}, exits(2, 5), nil},
		{"print 1; return;", nil, exits(3, 1), []int{1}},
		{"print 1; return; print 2;", nil, exits(3, 1), []int{1}},
		{"print 1; var x: int;", nil, exits(2, 1), nil},
		{"print 1; nobody();", nil, exits(4, 1), []int{1}},
		{"say(1);", nil, exits(7, 1), []int{1}},
		{"print 1; while false { }", nil, exits(4, 1), []int{1}},
		{"print 1; if false { } else { }", nil, exits(4, 1), []int{1}},
		{"k = new R;", nil, exits(2), nil},
		{"l = new [int](1); l[0] = 1;", nil, exits(7), nil},
		{"print 1; print 2 / 0;", nil, traps(api.TrapDiv, 6, 1), []int{1}},
		{"print 1; print read();", nil, traps(api.TrapRead, 4, 1), []int{1}},
		{"print 1; print k.n;", nil, traps(api.TrapNull, 5, 1), []int{1}},
		{"print 1; k.n = 2;", nil, traps(api.TrapNull, 5, 1), []int{1}},
		{"print 1; l = new [int](51);", nil, traps(api.TrapSize, 5, 1), []int{1}},
	} {
		p := parsed(t, inMain(x.body))
		for _, more := range []int{x.want.Steps, x.want.Steps + 1, x.want.Steps + 2, math.MaxInt} {
			checkProg(t, p, x.in, more, x.want)
		}
		checkProg(t, p, x.in, x.want.Steps-1, stops(x.want.Steps-1, x.less...))
	}
}

// P11.1: one program with every number of fuel: what it has printed by then is known of each step.
func TestEveryFuel(t *testing.T) {
	// The steps are, in their order: let, 2; while, <, 0, x; print, x; x, -, x, 1; and so on.
	p := parsed(t, "func main() { let x: int = 2; while 0 < x { print x; x = x - 1; } print 9; }")
	whole := exits(28, 2, 1, 9)
	printed := []int{8, 18, 28} // what is printed is printed with the step of its expression
	for fuel := -3; fuel < 40; fuel++ {
		want := whole
		if fuel < whole.Steps {
			many := 0
			for many < len(printed) && printed[many] <= fuel {
				many++
			}
			want = stops(max(fuel, 0), whole.Out[:many]...)
		}
		checkProg(t, p, nil, fuel, want)
	}
}

// checkCut wants a program of a text to have printed so much when there is so much fuel, which is not enough.
func checkCut(t *testing.T, body string, in []int, fuel int, out ...int) {
	t.Helper()
	checkProg(t, parsed(t, inMain(body)), in, fuel, stops(fuel, out...))
}

// P11.1: the fuel runs out within an expression. What comes behind is not evaluated, and so does not trap.
func TestOutWithinExpression(t *testing.T) {
	checkCut(t, "print 1 / 0;", nil, 1)
	checkCut(t, "print 1 / 0;", nil, 2)
	checkCut(t, "print 1 / 0;", nil, 3)
	checkMain(t, "print 1 / 0;", nil, traps(api.TrapDiv, 4))
	checkCut(t, "print say(1) + say(2);", nil, 8, 1)
	checkCut(t, "print say(1) + say(2);", nil, 7, 1)
	checkCut(t, "print say(1) + say(2);", nil, 6, 1)
	checkCut(t, "print say(1) + say(2);", nil, 5)
	checkCut(t, "print 1 + read();", nil, 3)
	checkCut(t, "print 1 + (2 + (3 + 4 / 0));", nil, 6)
	checkCut(t, "k.n = 1 / 0;", nil, 2)
	checkCut(t, "l[1 / 0] = 1;", nil, 4)
	checkCut(t, "k.n = 1;", nil, 2)
	checkCut(t, "print len(l);", nil, 2)
	checkCut(t, "print 5; l = new [int](51);", nil, 4, 5)
}

// P11.1: the fuel runs out ahead of the condition of a loop, each time, and within it.
func TestOutAheadOfCondition(t *testing.T) {
	for round := range 4 {
		begin := round * 4 // while, true, print, 5
		out := slices.Repeat([]int{5}, round)
		checkCut(t, "while true { print 5; }", nil, begin, out...)
		checkCut(t, "while true { print 5; }", nil, begin+1, out...)
		checkCut(t, "while true { print 5; }", nil, begin+2, out...)
		checkCut(t, "while true { print 5; }", nil, begin+3, out...)
	}
	checkCut(t, "while true { }", nil, 1000)
	checkCut(t, "while true { }", nil, 1001)
	checkCut(t, "while 1 / 0 == 1 { }", nil, 4)
	checkCut(t, "print 1; while read() == 1 { }", nil, 4, 1)
	checkCut(t, "while true { var x: int; }", nil, 7)
	checkCut(t, "print 1; if 1 / 0 == 1 { }", nil, 6, 1)
	checkCut(t, "if true { print 1; } print 2;", nil, 3)
	checkCut(t, "if true { print 1; } print 2;", nil, 4, 1)
}

// P11.1: the fuel runs out within a call, ahead of it, in front of what follows, and in frames within each other.
func TestOutWithinCall(t *testing.T) {
	// The steps are, in their order: do, say, 1; print, n; return, n; print, 2.
	for fuel, out := range [][]int{nil, nil, nil, nil, nil, {1}, {1}, {1}, {1}} {
		checkCut(t, "say(1); print 2;", nil, fuel, out...)
	}
	checkMain(t, "say(1); print 2;", nil, exits(9, 1, 2))
	deep := "func f(n: int): int { print n; return f(n + 1); } func main() { print f(1); }"
	checkText(t, deep, nil, 12, stops(12, 1, 2))
	checkText(t, deep, nil, 11, stops(11, 1))
	checkText(t, deep, nil, 10, stops(10, 1))
	// In the last frame there is no frame more: this is found behind the evaluation of the parameter.
	last := 3 + 39*7
	var out []int
	for n := range 39 {
		out = append(out, n+1)
	}
	checkText(t, deep, nil, last-1, stops(last-1, out...))
	checkText(t, deep, nil, last, traps(api.TrapDeep, last, out...))
	checkText(t, "func main() { main(); }", nil, 79, stops(79))
	checkText(t, "func main() { main(); }", nil, 80, traps(api.TrapDeep, 80))
}

// samples are texts with all kinds of statements and expressions, and with ends of all kinds, for any input.
func samples() []string {
	return []string{
		inMain("print say(1) + sub(say(2), read()); if not(h) || h { k = new R; k.r = k; k.r.n = 4; } else { nobody(); } print k.r.n; l = new [int](3); l[say(2)] = len(l); print l[2] % 2 * -1; let x: int = read(); while x < 3 { x = x + 1; if x <= 2 && true { set(x); print g; } } print none(); me(k).a = l; print k.a[2] / x; print l[x];"),
		inMain("print 1; while read() != 0 { print read(); let r: R = new R; r.r = k; k = r; set(g + 1); } print g; while k != null R { print k.n; k = k.r; }"),
		"func f(n: int): int { print n; if n % 3 == 0 { f(n / 3); return n; } while n < 20 { n = n * 2; if 12 < n { return f(n - 1); } } return f(n - 2); } func main() { print f(read()); main(); }",
		"func main() { let x: int = 7; while 0 < x { print x; let y: int = 0; while y < x { y = y + 1; if y % 3 == 2 { print y; } } x = x - 2; } return; }",
		"global d: int; func main() { d = d + 1; let x: int = d; if d < 50 { print read() / (4 - x); main(); } print x; }",
		"func main() { let a: [[int]] = new [[int]](read()); let i: int = 0; while i < len(a) { a[i] = new [int](i); i = i + 1; } while true { i = i - 1; print len(a[i]); let b: [int] = a[i]; b[0] = i; print a[i][0]; } }",
	}
}

// P11.3: with more fuel a run does the same and possibly more.
func TestMoreFuel(t *testing.T) {
	ends := map[int]int{}
	for _, s := range samples() {
		p := parsed(t, s)
		for _, in := range [][]int{nil, {0}, {1}, {3, 1}, {2, 5, 1, 0}, {5, 4, 3, 2, 1}, {-1, -1}, {27, 1, 1, 1, 1, 1}, {51}} {
			before := sem.Run(p, in, 0)
			for fuel := 1; fuel < 500; fuel++ {
				got := sem.Run(p, in, fuel)
				ended := before.End == api.EndExit || before.End == api.EndTrap
				continues := got.Steps == fuel && len(got.Out) >= len(before.Out) && slices.Equal(got.Out[:len(before.Out)], before.Out)
				if ended && !equal(got, before) || !ended && !continues {
					t.Errorf("Run(%q, %v, %d) = %+v; with less %+v", s, in, fuel, got, before)
				}
				before = got
			}
			ends[before.End]++
		}
	}
	if ends[api.EndExit] < 10 || ends[api.EndTrap] < 10 {
		t.Errorf("there are not enough runs of each end: %v", ends)
	}
}
