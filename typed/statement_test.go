package typed_test

import (
	"slices"
	"testing"

	"runrig/api"
)

// statement is one with variables of these types as its Es.
func statement(kind int, es ...api.Of) api.Stmt {
	return api.Stmt{Kind: kind, Es: node(0, es...).Kids, At: stmtAt}
}

func withTarget(s api.Stmt, name string, o api.Of) api.Stmt {
	s.Name, s.Of = name, o
	return s
}

// checkStmt wants a statement to fit within the surroundings, with this Ref, or to be refused at its own place.
func checkStmt(t *testing.T, fits bool, s api.Stmt, ref int) {
	t.Helper()
	p := surroundings(s)
	if !fits {
		checkRefused(t, p, stmtAt)
		return
	}
	got := fitting(t, p)
	if len(got.Bodies) != 2 {
		return
	}
	code := got.Bodies[1].Code
	if last := code[len(code)-1]; last.Ref != ref || last.Kind != s.Kind || last.At != s.At {
		t.Errorf("%+v yields %+v; want the Ref %d", s, last, ref)
	}
}

// P8.1: declarations of each type, without and with a value of each type.
func TestDeclarations(t *testing.T) {
	count := len(everyOf())
	for _, o := range everyOf() {
		checkStmt(t, true, withTarget(statement(api.SVar), "new", o), count)
		for _, value := range everyOf() {
			checkStmt(t, value == o, withTarget(statement(api.SLet, value), "new", o), count)
			checkStmt(t, false, withTarget(statement(api.SLet, value), nameOf(value), o), 0)
		}
	}
	for _, o := range strangeOfs() {
		checkStmt(t, false, withTarget(statement(api.SVar), "new", o), 0)
		for _, value := range everyOf() {
			checkStmt(t, false, withTarget(statement(api.SLet, value), "new", o), 0)
		}
	}
}

// P8.1: assignments of each type to variables of each type.
func TestAssignments(t *testing.T) {
	for i, o := range everyOf() {
		for _, value := range everyOf() {
			checkStmt(t, value == o, withTarget(statement(api.SSet, value), nameOf(o), api.Of{}), i)
		}
		for _, name := range []string{"", "X", "main", "none", "r", "int "} {
			checkStmt(t, false, withTarget(statement(api.SSet, o), name, api.Of{}), 0)
		}
	}
}

// P8.1: values of each type put into fields and items of each type.
func TestPuts(t *testing.T) {
	for i, o := range everyOf() {
		for _, value := range everyOf() {
			field := withName(node(api.EField, of("R", 0)), nameOf(o))
			checkStmt(t, value == o, api.Stmt{Kind: api.SPut, Es: []api.Expr{field, variable(value)}, At: stmtAt}, 0)
			if o.Dims < api.MaxDims {
				item := node(api.EItem, everyOf()[i+1], of("int", 0))
				checkStmt(t, value == o, api.Stmt{Kind: api.SPut, Es: []api.Expr{item, variable(value)}, At: stmtAt}, 0)
			}
		}
	}
}

// P8.1: the first expression of an SPut is an EField or an EItem, and that of an SDo an ECall.
func TestFormsOfFirstExpressions(t *testing.T) {
	integer, boolean := of("int", 0), of("bool", 0)
	list := []api.Expr{
		node(api.EInt), node(api.EBool), withOf(node(api.ENull), of("R", 0)), variable(integer), withName(node(api.EField, of("R", 0)), "r"), node(api.EItem, of("int", 1), integer), withName(node(api.ECall, integer), "none"),
		withOf(node(api.ENew), of("R", 0)), withOf(node(api.EMake, integer), integer), node(api.ELen, of("int", 1)), node(api.ERead), node(api.ENeg, integer), node(api.ENot, boolean),
		node(api.EAdd, integer, integer), node(api.ESub, integer, integer), node(api.EMul, integer, integer), node(api.EDiv, integer, integer), node(api.ERem, integer, integer), node(api.ELess, integer, integer), node(api.ELeq, integer, integer),
		node(api.ESame, integer, integer), node(api.EDiff, integer, integer), node(api.EAnd, boolean, boolean), node(api.EOr, boolean, boolean),
	}
	for i, e := range list {
		if e.Kind != i+1 {
			t.Fatalf("there is no expression of kind %d", i+1)
		}
		checkStmt(t, e.Kind == api.EField || e.Kind == api.EItem, api.Stmt{Kind: api.SPut, Es: []api.Expr{e, variable(integer)}, At: stmtAt}, 0)
		checkStmt(t, e.Kind == api.ECall, api.Stmt{Kind: api.SDo, Es: []api.Expr{e}, At: stmtAt}, 0)
	}
}

// P8.1: conditions are of bool, and what is printed is an int.
func TestConditionsAndPrints(t *testing.T) {
	for _, o := range everyOf() {
		checkStmt(t, o == of("bool", 0), statement(api.SIf, o), 0)
		checkStmt(t, o == of("bool", 0), statement(api.SWhile, o), 0)
		checkStmt(t, o == of("int", 0), statement(api.SPrint, o), 0)
	}
}

// returning is a program with a function that returns values of these types.
func returning(has bool, result api.Of, values ...api.Of) api.Prog {
	p := surroundings()
	main := &p.Funcs[1]
	f := api.Func{Name: "f", Has: has, Result: result, Body: append(slices.Clone(main.Body), statement(api.SRet, values...))}
	main.Body = nil
	p.Funcs = append(p.Funcs, f)
	return p
}

// P8.1: a function with a result returns a value of its type, and one without returns none.
func TestReturns(t *testing.T) {
	for _, o := range everyOf() {
		for _, value := range everyOf() {
			if value == o {
				fitting(t, returning(true, o, value))
			} else {
				checkRefused(t, returning(true, o, value), stmtAt)
			}
			checkRefused(t, returning(false, o, value), stmtAt)
			checkRefused(t, returning(true, o, value, value), stmtAt)
			checkRefused(t, returning(false, o, value, value), stmtAt)
		}
		checkRefused(t, returning(true, o), stmtAt)
		fitting(t, returning(false, o))
	}
	fitting(t, returning(false, api.Of{}))
	fitting(t, returning(false, of("X", -1)))
}

// P8.1: returns in texts; a function with a result needs none, and a return may stand anywhere.
func TestReturnsInTexts(t *testing.T) {
	for _, s := range []string{
		"func main(){return;}", "func main(){}func f():int{}", "func main(){}func f():int{return 1;}", "func main(){return;return;}func f():bool{return true;return 1<2;}",
		"func main(){if true{return;}else{return;}while true{return;}}", "func main(){}func f():[int]{if true{return null[int];}else{while true{return f();}}return new[int](1);}",
	} {
		fitting(t, parsed(t, s))
	}
	for _, x := range []struct {
		s  string
		at int
	}{
		{"func main(){return 1;}", 12}, {"func main(){}func f():int{return;}", 26}, {"func main(){}func f():int{return true;}", 26}, {"func main(){}func f():int{return 1;return true;}", 35}, {"func main(){if true{return 1;}}", 20},
		{"func main(){}func f(){return f();}", 22}, {"func f():int{while true{if true{}else{return;}}}func main(){}", 38}, {"func f():[int]{return null[[int]];}func main(){}", 15}, {"func f():int{return 1;}func main(){return f();}", 35},
		{"record A{}record B{}func f():B{return new A;}func main(){}", 31},
	} {
		checkTextRefused(t, x.s, x.at)
	}
}

// P8.1, P8.2: statements of each kind in texts.
func TestStatements(t *testing.T) {
	checkBody(t, "", "")
	checkBody(t, "var y:int;", "y#0")
	checkBody(t, "var y:int;var z:[[R]];let u:bool=true;", "y#0 z#1 u#2 true:bool")
	checkBody(t, "let y:int=1;y=y+1;", "y#0 1:int y#0 y:int 1:int _ + _:int")
	checkBody(t, "i=1;g=null[[R]];x=true;", "i#-2 1:int g#-1 null [[R]]:[[R]] x#-3 true:bool")
	checkBody(t, "g[i]=new[R](2);", "g#-1:[[R]] i#-2:int _[_]:[R] 2:int new [R](_):[R]")
	checkBody(t, "g[0][0].b=x;", "g#-1:[[R]] 0:int _[_]:[R] 0:int _[_]:R _.b#2:bool x#-3:bool")
	checkBody(t, "f(1,new R).n=2;", "1:int new R:R f(_, _):R _.n:int 2:int")
	checkBody(t, "q()[i]=i;", "q()#2:[int] i#-2:int _[_]:int i#-2:int")
	checkBody(t, "if x{i=1;}", "x#-3:bool i#-2 1:int")
	checkBody(t, "if x{i=1;}else{i=2;print 3;}print 4;", "x#-3:bool i#-2 1:int i#-2 2:int 3:int 4:int")
	checkBody(t, "if x{}else{if !x{}else{}}", "x#-3:bool x#-3:bool !_:bool")
	checkBody(t, "while i<2{i=i+1;while x{x=false;}}", "i#-2:int 2:int _ < _:bool i#-2 i#-2:int 1:int _ + _:int x#-3:bool x#-3 false:bool")
	checkBody(t, "return;print 1;", "1:int")
	checkBody(t, "print 1;main();", "1:int main()#3:-")
}

// P8.1: statements in texts that do not fit, at their own places.
func TestStatementsRefused(t *testing.T) {
	for _, x := range []struct {
		body string
		at   int
	}{
		{"var y:X;", 0}, {"var y:[[X]];", 0}, {"let y:X=1;", 0}, {"let y:int=true;", 0}, {"let y:R=new S;", 0}, {"let y:[int]=null[[int]];", 0}, {"let y:[int]=1;", 0},
		{"y=1;", 0}, {"p=1;", 0}, {"i=true;", 0}, {"g=null[R];", 0}, {"g[0]=new R;", 0}, {"g[0][0]=new S;", 0}, {"q()[0]=true;", 0}, {"g[0][0].n=true;", 0}, {"(new S).n=1;", 0},
		{"if 1{}", 0}, {"if g{}", 0}, {"while new R{}", 0}, {"while i{}", 0}, {"print x;", 0}, {"print g;", 0}, {"print null R;", 0}, {"return 1;", 0}, {"return p();", 0},
		{"print 1;print x;", 8}, {"if x{print x;}", 5}, {"if x{}else{print x;}", 11}, {"while x{print x;}", 8}, {"if x{if x{while x{y=1;}}}", 18}, {"while x{if x{}else{print 1;if 1{}}}", 27},
	} {
		checkBodyRefused(t, x.body, x.at)
	}
}
