package typed_test

import (
	"math"
	"slices"
	"strings"
	"testing"

	"runrig/api"
)

// P8.1: the fault of the declarations comes first, wherever it stands.
func TestDeclarationsFirst(t *testing.T) {
	for _, x := range []struct {
		s  string
		at int
	}{
		{"func main(){print x;}record A{}record A{}", 38}, {"func main(){print x;}record A{a:X;}", 30}, {"func main(){print x;}global g:X;", 28}, {"func main(){print x;}func f(a:X){}", 28}, {"func main(){print x;}func f():X{}", 26},
		{"func main(){print x;}func main(){}", 26}, {"func f(){print x;}", 0}, {"func f(){x=1;}func main(a:int){}", 0}, {"func f(){x=1;}func main():int{return 1;}", 0}, {"", 0}, {"record A{a:int;a:int;}func main(){return 1;}", 15},
	} {
		checkTextRefused(t, x.s, x.at)
	}
	checkRefused(t, api.Prog{}, 0)
	checkRefused(t, api.Prog{Funcs: []api.Func{{Name: "f", Body: []api.Stmt{{Kind: 99, At: 5}}}}}, 0)
}

// kidCount is how many Kids the expressions of a kind have: none fits if it is negative, and any for an ECall.
func kidCount(kind int) int {
	switch kind {
	case api.EInt, api.EBool, api.ENull, api.EVar, api.ENew, api.ERead:
		return 0
	case api.EField, api.EMake, api.ELen, api.ENeg, api.ENot:
		return 1
	case api.EItem, api.EAdd, api.ESub, api.EMul, api.EDiv, api.ERem, api.ELess, api.ELeq, api.ESame, api.EDiff, api.EAnd, api.EOr:
		return 2
	}
	return -1
}

// strangeKinds are kinds that do not exist, neither of expressions nor of statements.
func strangeKinds() []int {
	return []int{math.MinInt, -25, -2, -1, 0, 25, 26, 100, 1 << 8, 1<<8 + 1, 1 << 32, 1<<32 + 1, math.MaxInt}
}

// unknown is an expression that does not fit, and withoutValue one that does but has no value.
func unknown(at int) api.Expr { return api.Expr{Kind: api.EVar, Name: "X", At: at} }

func withoutValue(at int) api.Expr {
	return api.Expr{Kind: api.ECall, Name: "none", Kids: []api.Expr{{Kind: api.EInt}}, At: at}
}

// checkExprRefused wants an expression to be refused at this place, as one of each statement that has one.
func checkExprRefused(t *testing.T, e api.Expr, at int) {
	t.Helper()
	for _, s := range []api.Stmt{
		{Kind: api.SPrint, Es: []api.Expr{e}}, {Kind: api.SLet, Name: "int", Of: of("int", 0), Es: []api.Expr{e}}, {Kind: api.SSet, Name: "X", Es: []api.Expr{e}}, {Kind: api.SIf, Es: []api.Expr{e}}, {Kind: api.SWhile, Es: []api.Expr{e}},
		{Kind: api.SPut, Es: []api.Expr{node(api.EItem, of("R", 1), of("int", 0)), e}},
	} {
		s.At = stmtAt
		s.Body = []api.Stmt{{Kind: 99}}
		checkRefused(t, surroundings(s, s), at)
	}
}

// P8.1: of each kind and number of Kids, the form comes first: whatever the Kids are, the fault is at the expression itself.
func TestFormAheadOfKids(t *testing.T) {
	for kind := 1; kind <= api.EOr; kind++ {
		for count := range 5 {
			if kind == api.ECall || count == kidCount(kind) {
				continue
			}
			integers := node(kind, slices.Repeat([]api.Of{of("int", 0)}, count)...)
			bad := api.Expr{Kind: kind, At: exprAt}
			for i := range count {
				bad.Kids = append(bad.Kids, unknown(60+i))
			}
			for _, e := range []api.Expr{integers, bad} {
				checkExprRefused(t, withOf(withName(e, "int"), of("int", 0)), exprAt)
				checkExprRefused(t, withOf(withName(e, "int"), of("R", 0)), exprAt)
			}
		}
	}
	for _, kind := range strangeKinds() {
		for count := range 4 {
			e := api.Expr{Kind: kind, At: exprAt, Kids: slices.Repeat([]api.Expr{unknown(60)}, count)}
			checkExprRefused(t, withOf(withName(e, "int"), of("R", 0)), exprAt)
		}
	}
	for _, n := range []int{math.MinInt, -2, -1, 2, 3, 1 << 8, 1 << 32, math.MaxInt} {
		checkExprRefused(t, api.Expr{Kind: api.EBool, N: n, At: exprAt}, exprAt)
	}
}

// P8.1: the Kids come in order, and ahead of what else is asked of the expression: here nothing of that holds.
func TestKidsAheadOfConditions(t *testing.T) {
	for kind := 1; kind <= api.EOr; kind++ {
		count := kidCount(kind)
		if kind == api.ECall {
			count = 4
		}
		for i := range count {
			for _, faulty := range []api.Expr{unknown(60 + i), withoutValue(60 + i), {Kind: 99, At: 60 + i}, {Kind: api.ENeg, At: 60 + i}, {Kind: api.ENeg, At: 30, Kids: []api.Expr{unknown(60 + i)}}} {
				e := withOf(withName(node(kind, slices.Repeat([]api.Of{of("S", 2)}, count)...), "X"), of("X", 7))
				e.Kids[i] = faulty
				checkExprRefused(t, e, 60+i)
				for j := i + 1; j < count; j++ {
					for _, later := range []api.Expr{unknown(60 + j), withoutValue(60 + j), {Kind: 99, At: 60 + j}} {
						e.Kids[j] = later
						checkExprRefused(t, e, 60+i)
					}
				}
			}
		}
	}
}

// exprCount is how many Es the statements of a kind have, in a function with a result or without.
func exprCount(kind int, has bool) int {
	switch {
	case kind == api.SVar || kind == api.SRet && !has:
		return 0
	case kind == api.SPut:
		return 2
	}
	return 1
}

// inFunction is a program whose function f consists of a statement.
func inFunction(has bool, s api.Stmt) api.Prog {
	p := surroundings()
	p.Funcs = append(p.Funcs, api.Func{Name: "f", Has: has, Result: of("int", 0), Params: []api.Param{{Name: "int", Of: of("int", 0)}}, Body: []api.Stmt{s}})
	return p
}

// P8.1: of each kind and number of Es, the form comes first; then come the Es, in order, and then all else.
func TestFormAheadOfExpressions(t *testing.T) {
	for kind := api.SVar; kind <= api.SDo; kind++ {
		for _, has := range []bool{false, true} {
			for count := range 4 {
				s := api.Stmt{Kind: kind, Name: "int", Of: of("bool", 0), At: stmtAt, Body: []api.Stmt{{Kind: 99}}, Else: []api.Stmt{{Kind: 99}}}
				for i := range count {
					s.Es = append(s.Es, unknown(60+i))
				}
				if kind == api.SPut && count > 0 {
					s.Es[0] = api.Expr{Kind: api.EField, Kids: []api.Expr{unknown(60)}}
				}
				if kind == api.SDo && count > 0 {
					s.Es[0] = api.Expr{Kind: api.ECall, Kids: []api.Expr{unknown(60)}}
				}
				switch {
				case count != exprCount(kind, has):
					checkRefused(t, inFunction(has, s), stmtAt)
				case count > 0:
					checkRefused(t, inFunction(has, s), 60)
				}
			}
		}
	}
	for _, kind := range strangeKinds() {
		for count := range 3 {
			s := api.Stmt{Kind: kind, Name: "int", Of: of("int", 0), Es: slices.Repeat([]api.Expr{unknown(60)}, count), At: stmtAt}
			checkRefused(t, inFunction(false, s), stmtAt)
			checkRefused(t, inFunction(true, s), stmtAt)
		}
	}
	checkStmt(t, false, api.Stmt{Kind: 10, Es: []api.Expr{variable(of("int", 0))}, At: stmtAt}, 0)
}

// P8.1: the other demands on the form of a statement come ahead of its Es, too.
func TestOtherFormsAheadOfExpressions(t *testing.T) {
	for _, o := range strangeOfs() {
		checkStmt(t, false, api.Stmt{Kind: api.SLet, Name: "y", Of: o, Es: []api.Expr{unknown(60)}, At: stmtAt}, 0)
	}
	for kind := range api.EOr + 2 {
		e := api.Expr{Kind: kind, Kids: []api.Expr{unknown(61)}, At: 60}
		if kind != api.EField && kind != api.EItem {
			checkStmt(t, false, api.Stmt{Kind: api.SPut, Es: []api.Expr{e, unknown(62)}, At: stmtAt}, 0)
		}
		if kind != api.ECall {
			checkStmt(t, false, api.Stmt{Kind: api.SDo, Es: []api.Expr{e}, At: stmtAt}, 0)
		}
	}
	put := func(first, second api.Expr) api.Prog {
		return surroundings(api.Stmt{Kind: api.SPut, Es: []api.Expr{first, second}, At: stmtAt})
	}
	checkRefused(t, put(withName(node(api.EField, of("int", 0)), "X"), unknown(60)), exprAt)
	checkRefused(t, put(withName(node(api.EField, of("R", 0)), "r"), unknown(60)), 60)
	checkRefused(t, put(withName(node(api.EField, of("R", 0)), "r"), withoutValue(60)), 60)
	checkRefused(t, put(node(api.EItem, of("R", 1)), unknown(60)), exprAt)
	checkRefused(t, put(node(api.EItem, of("R", 1), of("int", 0)), variable(of("R", 1))), stmtAt)
}

// P8.1: what a statement itself demands comes ahead of its Body, and its Body ahead of its Else.
func TestConditionsAheadOfBlocks(t *testing.T) {
	checkBodyRefused(t, "if 1{print x;}else{print g;}", 0)
	checkBodyRefused(t, "if x{print 1;}else{print x;}", 19)
	checkBodyRefused(t, "if x{print x;}else{print g;}", 5)
	checkBodyRefused(t, "if x{if 1{print g;}}else{print g;}", 5)
	checkBodyRefused(t, "if y{print x;}else{print g;}", 3)
	checkBodyRefused(t, "while 1{print x;}", 0)
	checkBodyRefused(t, "while x+1{print x;}", 7)
	checkBodyRefused(t, "while x{print 1;print x;}print g;", 16)
}

// faultyStatements are texts of statements with where they are refused; no one of them declares anything ahead of that.
func faultyStatements() []struct {
	body string
	at   int
} {
	return []struct {
		body string
		at   int
	}{
		{"var y:X;", 0}, {"let y:X=z;", 0}, {"let y:int=z;", 10}, {"let y:int=x;", 0}, {"y=1;", 0}, {"y=z;", 2}, {"i=x;", 0}, {"i=p();", 2}, {"g[0]=1;", 0}, {"g[x]=1;", 1}, {"g.n=z;", 1}, {"g[0]=z;", 5}, {"if 1{print x;}", 0}, {"if z{}", 3}, {"if x{}else{y=1;}", 11},
		{"while g{}", 0}, {"while x{while 1{}}", 8}, {"return 1;", 0}, {"return z;", 0}, {"print x;", 0}, {"print z;", 6}, {"print 1+p();", 8}, {"print i+(1+x);", 10}, {"z();", 0}, {"f(1);", 0}, {"p(z);", 2}, {"print null int;", 6}, {"print new X;", 6},
	}
}

// P8.1: of two errors the first one in the order of the text counts, with its own place, however the statements stand to each
// other.
func TestFirstOfTwoErrors(t *testing.T) {
	for _, first := range faultyStatements() {
		for _, second := range faultyStatements() {
			for _, s := range []string{"#$", "if x{#}else{$}", "if x{#$}", "while x{#}$", "if x{print i;#}$", "print i;#if x{$}", "if x{while x{#}}else{}$", "var v:int;#while 1{$}"} {
				body := strings.NewReplacer("#", first.body, "$", second.body).Replace(s)
				checkBodyRefused(t, body, strings.IndexByte(s, '#')+first.at)
			}
		}
	}
}

// P8.1: the functions come in order, whichever of them is main.
func TestFirstOfTwoFunctions(t *testing.T) {
	for _, first := range faultyStatements() {
		for _, second := range faultyStatements() {
			for _, s := range []string{"func main(){#}func e(){$}", "func e(){#}func main(){$}", "func e(){print i;}func d(){#}func main(){$}", "func main(){}func e(){if x{}#}func d(){$}"} {
				text := context + strings.NewReplacer("#", first.body, "$", second.body).Replace(s)
				checkTextRefused(t, text, len(context)+strings.IndexByte(s, '#')+first.at)
			}
		}
	}
}
