package typed_test

import (
	"math"
	"strconv"
	"strings"
	"testing"

	"runrig/api"
	"runrig/show"
)

// everyOf are the types of all bases, with 0 to MaxDims dimensions, where the records are R and S.
func everyOf() []api.Of {
	var list []api.Of
	for _, name := range []string{"int", "bool", "R", "S"} {
		for dims := range api.MaxDims + 1 {
			list = append(list, api.Of{Name: name, Dims: dims})
		}
	}
	return list
}

// typeOf is a type of these.
func typeOf(o api.Of) api.Type {
	switch o.Name {
	case "int":
		return api.Type{Base: api.TInt, Dims: o.Dims}
	case "bool":
		return api.Type{Base: api.TBool, Dims: o.Dims}
	case "S":
		return api.Type{Base: api.TRec, Rec: 1, Dims: o.Dims}
	}
	return api.Type{Base: api.TRec, Dims: o.Dims}
}

func of(name string, dims int) api.Of { return api.Of{Name: name, Dims: dims} }

// nameOf is the variable of a type: its name is the text of the type.
func nameOf(o api.Of) string { return show.Type(o) }

// exprAt and stmtAt are the places of the expression and the statement that a test is about.
const (
	exprAt = 50
	stmtAt = 40
)

func variable(o api.Of) api.Expr { return api.Expr{Kind: api.EVar, Name: nameOf(o), At: exprAt + 1} }

// node is an expression with variables of these types as its Kids.
func node(kind int, kids ...api.Of) api.Expr {
	e := api.Expr{Kind: kind, At: exprAt}
	for _, o := range kids {
		e.Kids = append(e.Kids, variable(o))
	}
	return e
}

func withOf(e api.Expr, o api.Of) api.Expr {
	e.Of = o
	return e
}

func withName(e api.Expr, name string) api.Expr {
	e.Name = name
	return e
}

// surroundings are the records R and S, and a function main that begins with a variable of each type. Each record has a field
// of each type, which is named like the type, and one that the other one does not have.
func surroundings(list ...api.Stmt) api.Prog {
	var fields []api.Param
	main := api.Func{Name: "main"}
	for _, o := range everyOf() {
		fields = append(fields, api.Param{Name: nameOf(o), Of: o})
		main.Body = append(main.Body, api.Stmt{Kind: api.SVar, Name: nameOf(o), Of: o})
	}
	main.Body = append(main.Body, list...)
	own := func(name string) []api.Param { return append([]api.Param{{Name: name, Of: of("int", 0)}}, fields...) }
	return api.Prog{
		Recs:  []api.Rec{{Name: "R", Fields: own("r")}, {Name: "S", Fields: own("s")}},
		Funcs: []api.Func{{Name: "none", Params: []api.Param{{Name: "a", Of: of("int", 0)}}}, main},
	}
}

// checkType wants an expression to fit with this type and this Ref.
func checkType(t *testing.T, e api.Expr, want api.Of, ref int) {
	t.Helper()
	got := fitting(t, surroundings(api.Stmt{Kind: api.SSet, Name: nameOf(want), Es: []api.Expr{e}, At: stmtAt}))
	if len(got.Bodies) != 2 {
		return
	}
	e = got.Bodies[1].Code[len(everyOf())].Es[0]
	if e.Type != typeOf(want) || e.Ref != ref {
		t.Errorf("%+v has not the type %v and the Ref %d", e, want, ref)
	}
}

// checkNoType wants an expression to be refused.
func checkNoType(t *testing.T, e api.Expr) {
	t.Helper()
	checkRefused(t, surroundings(api.Stmt{Kind: api.SPrint, Es: []api.Expr{e}, At: stmtAt}), exprAt)
}

// checkWhether wants an expression to fit with this type and the Ref 0, or to be refused.
func checkWhether(t *testing.T, fits bool, e api.Expr, want api.Of) {
	t.Helper()
	if fits {
		checkType(t, e, want, 0)
	} else {
		checkNoType(t, e)
	}
}

// P8.1: expressions without Kids and without a Name.
func TestConstants(t *testing.T) {
	for _, n := range []int{0, 1, 2, -1, math.MaxInt, math.MinInt} {
		checkType(t, api.Expr{Kind: api.EInt, N: n, At: exprAt}, of("int", 0), 0)
		checkWhether(t, n == 0 || n == 1, api.Expr{Kind: api.EBool, N: n, At: exprAt}, of("bool", 0))
	}
	checkType(t, api.Expr{Kind: api.ERead, At: exprAt}, of("int", 0), 0)
}

// strangeOfs are types that do not exist.
func strangeOfs() []api.Of {
	list := []api.Of{{}, of("X", 0), of("X", 1), of("r", 0), of("none", 0), of("main", 0), of("Int", 0), of("[int]", 0), of("", 1)}
	for _, name := range []string{"int", "bool", "R", "S"} {
		for _, dims := range []int{-1, -2, math.MinInt, api.MaxDims + 1, api.MaxDims + 2, 1 << 32, math.MaxInt} {
			list = append(list, of(name, dims))
		}
	}
	return list
}

// P8.1: null is of a record or of an array, of 0 to MaxDims dimensions.
func TestNulls(t *testing.T) {
	for _, o := range everyOf() {
		checkWhether(t, o.Dims > 0 || o.Name == "R" || o.Name == "S", withOf(node(api.ENull), o), o)
	}
	for _, o := range strangeOfs() {
		checkNoType(t, withOf(node(api.ENull), o))
	}
}

// P8.1: variables of each type.
func TestVariables(t *testing.T) {
	for i, o := range everyOf() {
		checkType(t, withName(node(api.EVar), nameOf(o)), o, i)
	}
	for _, name := range []string{"", "X", "[X]", "Int", "int ", "none", "main", "r", "a", "[[[[int]]]]", "\x00"} {
		checkNoType(t, withName(node(api.EVar), name))
	}
}

// P8.1: fields of each type, of records that are not in an array.
func TestFields(t *testing.T) {
	for _, kid := range everyOf() {
		isRecord := kid == of("R", 0) || kid == of("S", 0)
		for i, o := range everyOf() {
			e := withName(node(api.EField, kid), nameOf(o))
			if isRecord {
				checkType(t, e, o, i+1)
			} else {
				checkNoType(t, e)
			}
		}
		checkWhether(t, kid == of("R", 0), withName(node(api.EField, kid), "r"), of("int", 0))
		checkWhether(t, kid == of("S", 0), withName(node(api.EField, kid), "s"), of("int", 0))
		for _, name := range []string{"", "X", "[X]", "rr", "R ", "none", "main", "a"} {
			checkNoType(t, withName(node(api.EField, kid), name))
		}
	}
}

// P8.1: items, whose first Kid has a dimension more.
func TestItems(t *testing.T) {
	for _, array := range everyOf() {
		for _, index := range everyOf() {
			checkWhether(t, array.Dims > 0 && index == of("int", 0), node(api.EItem, array, index), of(array.Name, array.Dims-1))
		}
	}
}

// P8.1: new records.
func TestNewRecords(t *testing.T) {
	for _, o := range everyOf() {
		checkWhether(t, o == of("R", 0) || o == of("S", 0), withOf(node(api.ENew), o), o)
	}
	for _, o := range strangeOfs() {
		checkNoType(t, withOf(node(api.ENew), o))
	}
}

// P8.1: new arrays, with a dimension more than their Of: up to MaxDims of them.
func TestNewArrays(t *testing.T) {
	for _, count := range everyOf() {
		for _, o := range everyOf() {
			checkWhether(t, o.Dims < api.MaxDims && count == of("int", 0), withOf(node(api.EMake, count), o), of(o.Name, o.Dims+1))
		}
		for _, o := range strangeOfs() {
			checkNoType(t, withOf(node(api.EMake, count), o))
		}
	}
}

// P8.1: operations with one Kid, but for EField.
func TestUnaryOperations(t *testing.T) {
	for _, o := range everyOf() {
		checkWhether(t, o.Dims > 0, node(api.ELen, o), of("int", 0))
		checkWhether(t, o == of("int", 0), node(api.ENeg, o), of("int", 0))
		checkWhether(t, o == of("bool", 0), node(api.ENot, o), of("bool", 0))
	}
}

// P8.1: operations with two Kids, but for EItem.
func TestBinaryOperations(t *testing.T) {
	for _, a := range everyOf() {
		for _, b := range everyOf() {
			integers := a == of("int", 0) && b == of("int", 0)
			booleans := a == of("bool", 0) && b == of("bool", 0)
			for _, kind := range []int{api.EAdd, api.ESub, api.EMul, api.EDiv, api.ERem} {
				checkWhether(t, integers, node(kind, a, b), of("int", 0))
			}
			checkWhether(t, integers, node(api.ELess, a, b), of("bool", 0))
			checkWhether(t, integers, node(api.ELeq, a, b), of("bool", 0))
			checkWhether(t, a == b, node(api.ESame, a, b), of("bool", 0))
			checkWhether(t, a == b, node(api.EDiff, a, b), of("bool", 0))
			checkWhether(t, booleans, node(api.EAnd, a, b), of("bool", 0))
			checkWhether(t, booleans, node(api.EOr, a, b), of("bool", 0))
		}
	}
}

// called is a program with a function that has these parameters, and of which the result is that of main's variable of this type.
func called(params []api.Of, result api.Of, args ...api.Of) api.Prog {
	f := api.Func{Name: "f", Has: true, Result: result}
	for i, o := range params {
		f.Params = append(f.Params, api.Param{Name: strconv.Itoa(i), Of: o})
	}
	p := surroundings(api.Stmt{Kind: api.SSet, Name: nameOf(result), Es: []api.Expr{withName(node(api.ECall, args...), "f")}, At: stmtAt})
	p.Funcs = append(p.Funcs, f)
	return p
}

func checkCall(t *testing.T, params []api.Of, result api.Of, args ...api.Of) {
	t.Helper()
	got := fitting(t, called(params, result, args...))
	if len(got.Bodies) == 3 {
		if e := got.Bodies[1].Code[len(everyOf())].Es[0]; e.Type != typeOf(result) || e.Ref != 2 {
			t.Errorf("a call %+v has not the type %v", e, result)
		}
	}
}

// P8.1: calls of functions with parameters and results of each type.
func TestCalls(t *testing.T) {
	integer, boolean := of("int", 0), of("bool", 0)
	for _, a := range everyOf() {
		checkCall(t, nil, a)
		for _, b := range everyOf() {
			checkCall(t, []api.Of{a, b}, a, a, b)
			checkCall(t, []api.Of{a, b, a}, b, a, b, a)
			if a != b {
				checkRefused(t, called([]api.Of{a}, integer, b), exprAt)
				checkRefused(t, called([]api.Of{a, a}, a, a, b), exprAt)
				checkRefused(t, called([]api.Of{a, a}, a, b, a), exprAt)
				checkRefused(t, called([]api.Of{a, b}, boolean, b, a), exprAt)
			}
		}
	}
}

// P8.1: calls with too few or too many arguments.
func TestNumbersOfArguments(t *testing.T) {
	list := []api.Of{of("int", 0), of("R", 1), of("int", 0), of("int", 0), of("int", 0), of("int", 0), of("int", 0), of("int", 0)}
	for params := range len(list) + 1 {
		for args := range len(list) + 1 {
			if params == args {
				checkCall(t, list[:params], of("S", 2), list[:args]...)
			} else {
				checkRefused(t, called(list[:params], of("S", 2), list[:args]...), exprAt)
			}
		}
	}
	for _, name := range []string{"", "g", "F", "ff", "R", "int", "[int]"} {
		checkNoType(t, withName(node(api.ECall), name))
	}
}

// P8.1: a call of a function without a result has no value, wherever one is wanted; in an SDo none is.
func TestCallsWithoutValue(t *testing.T) {
	for _, s := range []string{
		"print _;", "let y:int=_;", "i=_;", "g[0]=_;", "g[0][0].n=_;", "_.n=1;", "_[0]=1;", "g[_]=null[R];", "if _{}", "while _{}", "print _.n;", "print _[0];", "print g[_];", "print f(_,new R);", "print f(1,_);",
		"f(_,new R);", "f(1,_);", "p(_);", "h(_);", "g[0]=new[R](_);", "print len(_);", "print -_;", "print !_;", "print _+1;", "print 1+_;", "print _-1;", "print 1-_;", "print _*1;", "print 1*_;", "print _/1;", "print 1/_;",
		"print _<1;", "print 1<_;", "print _<=1;", "print 1<=_;", "print _==1;", "print 1==_;", "print _!=1;", "print 1!=_;", "print _&&true;", "print true&&_;", "print _||true;", "print true||_;", "print _%1;", "print 1%_;",
		"print _==_;", "x=_!=_;", "print f(_,_);", "g[_]=_;",
	} {
		checkBodyRefused(t, strings.ReplaceAll(s, "_", "p()"), strings.IndexByte(s, '_'))
	}
	checkBodyRefused(t, "p();i=1;print p();", 14)
	begin := "func p(){}func main(){}func f():int{return "
	checkTextRefused(t, begin+"p();}", len(begin))
	checkBody(t, "p();", "p()#1:-")
	checkBody(t, "if x{p();}while x{p();}", "x#-3:bool p()#1:- x#-3:bool p()#1:-")
	checkBody(t, "main();q();f(1,null R);", "main()#3:- q()#2:[int] 1:int null R:R f(_, _):R")
}

// P8.1, P8.2: expressions of each kind in texts.
func TestExpressions(t *testing.T) {
	checkBody(t, "print i;", "i#-2:int")
	checkBody(t, "print 12;print 0;", "12:int 0:int")
	checkBody(t, "x=true;x=false;", "x#-3 true:bool x#-3 false:bool")
	checkBody(t, "print read();", "read():int")
	checkBody(t, "g=null[[R]];", "g#-1 null [[R]]:[[R]]")
	checkBody(t, "g[1]=null[R];", "g#-1:[[R]] 1:int _[_]:[R] null [R]:[R]")
	checkBody(t, "let y:[[[bool]]]=null[[[bool]]];", "y#0 null [[[bool]]]:[[[bool]]]")
	checkBody(t, "g[0][1]=new R;", "g#-1:[[R]] 0:int _[_]:[R] 1:int _[_]:R new R:R")
	checkBody(t, "x=g[0][1].b;", "x#-3 g#-1:[[R]] 0:int _[_]:[R] 1:int _[_]:R _.b#2:bool")
	checkBody(t, "x=(new R).r.r.s[0].n;", "x#-3 new R:R _.r#1:R _.r#1:R _.s#3:[S] 0:int _[_]:S _.n:bool")
	checkBody(t, "g=(new S).m;", "g#-1 new S:S _.m#1:[[R]]")
	checkBody(t, "g=new[[R]](i);", "g#-1 i#-2:int new [[R]](_):[[R]]")
	checkBody(t, "let y:[[[S]]]=new[[[S]]](2);", "y#0 2:int new [[[S]]](_):[[[S]]]")
	checkBody(t, "print len(g)+len(g[0])+len(q());", "g#-1:[[R]] len(_):int g#-1:[[R]] 0:int _[_]:[R] len(_):int _ + _:int q()#2:[int] len(_):int _ + _:int")
	checkBody(t, "print f(1,null R).n;", "1:int null R:R f(_, _):R _.n:int")
	checkBody(t, "print -i*2/3%4-5;", "i#-2:int -_:int 2:int _ * _:int 3:int _ / _:int 4:int _ % _:int 5:int _ - _:int")
	checkBody(t, "x=!x||i<2&&3<=i;", "x#-3 x#-3:bool !_:bool i#-2:int 2:int _ < _:bool 3:int i#-2:int _ <= _:bool _ && _:bool _ || _:bool")
	checkBody(t, "x=(i==1)!=(g==null[[R]]);", "x#-3 i#-2:int 1:int _ == _:bool g#-1:[[R]] null [[R]]:[[R]] _ == _:bool _ != _:bool")
	checkBody(t, "x=new R==new R;", "x#-3 new R:R new R:R _ == _:bool")
}

// P8.1: expressions in texts that do not fit, each at its own place.
func TestExpressionsRefused(t *testing.T) {
	for _, x := range []struct {
		body string
		at   int
	}{
		{"print null int;", 6}, {"print null bool;", 6}, {"print null X;", 6}, {"print null[X];", 6}, {"print y;", 6}, {"print p;", 6}, {"print R;", 6},
		{"print g.n;", 7}, {"print g[0].n;", 10}, {"print q().n;", 9}, {"print i.n;", 7}, {"print g[0][0].m;", 13}, {"print g[0][0].x;", 13}, {"print (new S).r;", 13}, {"print (new S).b;", 13},
		{"print g[x];", 7}, {"print g[g];", 7}, {"print i[0];", 7}, {"print (new R)[0];", 13}, {"print g[0][0][0];", 13},
		{"print h();", 6}, {"print R();", 6}, {"print g();", 6}, {"print f();", 6}, {"print f(1);", 6}, {"print f(1,new R,1);", 6}, {"print f(new R,1);", 6}, {"print f(1,new S);", 6}, {"print q(1);", 6}, {"p(1);", 0}, {"h();", 0},
		{"print new X;", 6}, {"print new f;", 6}, {"print new[X](1);", 6}, {"print new[[[[R]]]](1);", 6}, {"print new[R](x);", 6}, {"print new[R](new R);", 6},
		{"print len(1);", 6}, {"print len(new R);", 6}, {"print -x;", 6}, {"print -g;", 6}, {"print !1;", 6}, {"print !g;", 6},
		{"print 1+x;", 7}, {"print x+1;", 7}, {"print x-x;", 7}, {"print 1*g;", 7}, {"print x/1;", 7}, {"print 1%x;", 7}, {"print x<x;", 7}, {"print 1<=x;", 7}, {"print 1==x;", 7}, {"print new R!=new S;", 11}, {"print g==g[0];", 7},
		{"print x&&1;", 7}, {"print 1||x;", 7}, {"print 1&&1;", 7}, {"print x||q();", 7}, {"print 1<2<3;", 9}, {"print 1+(2-(3*x));", 13},
	} {
		checkBodyRefused(t, x.body, x.at)
	}
}
