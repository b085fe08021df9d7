package typed_test

import (
	"slices"
	"strconv"
	"testing"

	"runrig/api"
)

// P8.1: a name is that of the global until the declaration of a local of this name ends, and from there on that of the local.
func TestGlobalsAndLocalsOfOneName(t *testing.T) {
	checkBody(t, "i=1;let i:bool=x;i=true;", "i#-2 1:int i#0 x#-3:bool i#0 true:bool")
	checkBody(t, "print i;var i:bool;i=!i;", "i#-2:int i#0 i#0 i:bool !_:bool")
	checkBody(t, "let i:bool=i<2;i=i||x;", "i#0 i#-2:int 2:int _ < _:bool i#0 i:bool x#-3:bool _ || _:bool")
	checkBody(t, "let i:int=i;print i;", "i#0 i#-2:int i:int")
	checkBody(t, "var y:int;let g:[int]=new[int](len(g));g[0]=y;", "y#0 g#1 g#-1:[[R]] len(_):int new [int](_):[int] g#1:[int] 0:int _[_]:int y:int")
	checkBodyRefused(t, "var i:bool;i=1;", 11)
	checkBodyRefused(t, "i=true;var i:bool;", 0)
	checkBodyRefused(t, "let i:bool=i;", 0)
	checkBodyRefused(t, "let i:bool=!i;", 11)
}

// P8.1: what is declared in a block is visible to the end of the function, also behind the block and in the other one.
func TestBlocks(t *testing.T) {
	checkBody(t, "if x{var i:bool;i=x;}i=x;", "x#-3:bool i#0 i#0 x#-3:bool i#0 x#-3:bool")
	checkBody(t, "if x{i=1;let i:bool=x;}else{i=x;}i=x;", "x#-3:bool i#-2 1:int i#0 x#-3:bool i#0 x#-3:bool i#0 x#-3:bool")
	checkBody(t, "if x{print i;}else{var i:bool;i=x;}i=x;", "x#-3:bool i#-2:int i#0 i#0 x#-3:bool i#0 x#-3:bool")
	checkBody(t, "while i<1{print i;let i:bool=x;i=x;}i=x;", "i#-2:int 1:int _ < _:bool i#-2:int i#0 x#-3:bool i#0 x#-3:bool i#0 x#-3:bool")
	checkBody(t, "while x{while x{if x{}else{var y:int;}}}y=1;print y;", "x#-3:bool x#-3:bool x#-3:bool y#0 y#0 1:int y:int")
	checkBody(t, "var a:int;if x{var b:int;}else{var c:int;while x{var d:int;}}var e:int;e=d;", "a#0 x#-3:bool b#1 c#2 x#-3:bool d#3 e#4 e#4 d#3:int")
	checkBodyRefused(t, "if x{y=1;}var y:int;", 5)
	checkBodyRefused(t, "if x{y=1;}else{var y:int;}", 5)
	checkBodyRefused(t, "if y{var y:bool;}", 3)
	checkBodyRefused(t, "while x{y=1;var y:int;}", 8)
	checkBodyRefused(t, "if x{var i:bool;}i=1;", 17)
	checkBodyRefused(t, "if x{var i:bool;}else{i=1;}", 22)
}

// P8.1: no local is declared twice, wherever the declarations stand; nor does a local have the name of a parameter.
func TestLocalsDeclaredTwice(t *testing.T) {
	for _, x := range []struct {
		body string
		at   int
	}{
		{"var y:int;var y:int;", 10}, {"var y:int;var y:bool;", 10}, {"var y:int;let y:int=1;", 10}, {"let y:int=1;var y:int;", 12}, {"let y:int=1;let y:int=y;", 12}, {"var y:int;print 1;var z:int;var y:int;", 28},
		{"if x{var y:int;}var y:int;", 16}, {"if x{var y:int;}else{var y:int;}", 21}, {"while x{var y:int;}let y:int=1;", 19}, {"var y:int;if x{var y:int;}", 15}, {"var y:int;if x{}else{while x{var y:int;}}", 29},
		{"var i:int;var i:int;", 10}, {"var i:bool;let i:bool=i;", 11},
	} {
		checkBodyRefused(t, x.body, x.at)
	}
	for _, s := range []string{"var a:int;", "var a:bool;", "let a:int=1;", "let a:int=a;", "var b:R;", "if true{var b:int;}", "while true{let a:int=1;}"} {
		at := 0
		if s[0] == 'i' {
			at = 8
		} else if s[0] == 'w' {
			at = 11
		}
		begin := "record R{}func main(){}func f(a:int,b:R){"
		checkTextRefused(t, begin+s+"}", len(begin)+at)
	}
}

// P8.1: the variable itself is not visible in its initial value.
func TestInitialValueNamesItself(t *testing.T) {
	checkBodyRefused(t, "let y:int=y;", 10)
	checkBodyRefused(t, "let y:int=1+(2*y);", 15)
	checkBodyRefused(t, "let y:R=f(1,y);", 12)
	checkBodyRefused(t, "let y:[int]=new[int](len(y));", 25)
	checkBodyRefused(t, "let y:bool=y==y;", 11)
	checkBody(t, "let y:int=1;let z:int=y;", "y#0 1:int z#1 y:int")
}

// P8.1: a parameter is visible in its whole function, ahead of a global of its name, and in no other function.
func TestParameters(t *testing.T) {
	got := fitting(t, parsed(t, "global a:bool;func main(){a=true;}func f(a:int,b:[int]){a=b[a];let c:int=a;b[c]=1;}func g(b:int):bool{b=1;return a;}"))
	integer, array, boolean := api.Type{Base: api.TInt}, api.Type{Base: api.TInt, Dims: 1}, api.Type{Base: api.TBool}
	want := []string{"a#-1 true:bool", "a#0 b#1:[int] a:int _[_]:int c#2 a:int b#1:[int] c#2:int _[_]:int 1:int", "b#0 1:int a#-1:bool"}
	vars := [][]api.Field{nil, {{Name: "a", Type: integer}, {Name: "b", Type: array}, {Name: "c", Type: integer}}, {{Name: "b", Type: integer}}}
	for i, b := range got.Bodies {
		checkShown(t, b, want[i])
		if !slices.Equal(b.Vars, vars[i]) {
			t.Errorf("%v; want %v", b.Vars, vars[i])
		}
	}
	if sig := got.Heads.Sigs[2]; sig.Result != boolean || got.Heads.Main != 0 {
		t.Errorf("%+v", got.Heads)
	}
	checkTextRefused(t, "func f(a:int){}func main(){print a;}", 33)
	checkTextRefused(t, "func main(){print a;}func f(a:int){}", 18)
	checkTextRefused(t, "func f(){var a:int;}func main(){a=1;}", 32)
	checkTextRefused(t, "global a:int;func main(){}func f(a:bool){a=1;}", 41)
}

// P8.1: records, fields, globals, functions and locals may have one name, and each is found where it is meant.
func TestOneNameForAll(t *testing.T) {
	p := parsed(t, "record b{}record a{c:int;a:a;}global b:int;global a:a;func b(){}func a(a:a):a{a.a=a;a=a.a;a=a(a);b();return new a;}func main(){a=a(a);a.a=null a;b=a.c;}")
	got := fitting(t, p)
	if len(got.Bodies) != 3 {
		return
	}
	// Here S is the second record, the one named a.
	checkShown(t, got.Bodies[1], "a:S _.a#1:S a:S a#0 a:S _.a#1:S a#0 a:S a(_)#1:S b():- new a:S")
	checkShown(t, got.Bodies[2], "a#-2 a#-2:S a(_)#1:S a#-2:S _.a#1:S null a:S b#-1 a#-2:S _.c:int")
}

// P8.1: the locals are numbered from 0 in the order of the text, behind the parameters, and the globals from -1 downwards.
func TestNumbers(t *testing.T) {
	const count = 20
	f := api.Func{Name: "f"}
	p := api.Prog{Funcs: []api.Func{{Name: "main"}}}
	uses := func(prefix string, i, at int) api.Stmt {
		return api.Stmt{Kind: api.SSet, Name: prefix + strconv.Itoa(i), Es: []api.Expr{{Kind: api.EVar, Name: prefix + strconv.Itoa(i)}}, At: at}
	}
	for i := range count {
		p.Globals = append(p.Globals, api.Param{Name: "g" + strconv.Itoa(i), Of: of("int", i%4)})
		f.Params = append(f.Params, api.Param{Name: "p" + strconv.Itoa(i), Of: of("bool", i%4)})
		f.Body = append(f.Body, api.Stmt{Kind: api.SVar, Name: "v" + strconv.Itoa(i), Of: of("int", (i+1)%4)})
	}
	for i := range count {
		f.Body = append(f.Body, uses("g", i, -1-i), uses("p", i, i), uses("v", i, count+i))
	}
	p.Funcs = append(p.Funcs, f)
	got := fitting(t, p)
	if len(got.Bodies) != 2 || len(got.Bodies[1].Vars) != 2*count {
		t.Fatalf("%+v", got)
	}
	for i, s := range got.Bodies[1].Code {
		if i < count && s.Ref != count+i || i >= count && (s.Ref != s.At || s.Es[0].Ref != s.At) {
			t.Errorf("%+v has not the Ref %d", s, s.At)
		}
	}
	for i, v := range got.Bodies[1].Vars {
		want := api.Field{Name: "p" + strconv.Itoa(i), Type: api.Type{Base: api.TBool, Dims: i % 4}}
		if i >= count {
			want = api.Field{Name: "v" + strconv.Itoa(i-count), Type: api.Type{Base: api.TInt, Dims: (i - count + 1) % 4}}
		}
		if v != want {
			t.Errorf("the local %d is %v; want %v", i, v, want)
		}
	}
}
