package heads_test

import (
	"slices"
	"testing"

	"runrig/api"
)

// sample is a correct program to which faults are added.
func sample() api.Prog {
	return api.Prog{
		Recs:    []api.Rec{{Name: "A", At: 1, Fields: []api.Param{param("a", "int", 2), param("b", "B", 3)}}, {Name: "B", At: 4, Fields: []api.Param{param("a", "A", 5)}}},
		Globals: []api.Param{param("g", "A", 6)},
		Funcs: []api.Func{
			{Name: "f", At: 7, Params: []api.Param{param("a", "B", 8)}, Has: true, Result: api.Of{Name: "A"}}, {Name: "main", At: 9}, {Name: "h", At: 10, Params: []api.Param{param("a", "int", 11)}},
		},
	}
}

// added is a fault that is added to the sample, and where it is told.
type added struct {
	at  int
	add func(p *api.Prog)
}

// faults are all sorts of them, in the order in which the document has them found.
func faults() []added {
	field := func(rec int, name, of string, at int) added {
		return added{at, func(p *api.Prog) { p.Recs[rec].Fields = append(p.Recs[rec].Fields, param(name, of, at)) }}
	}
	global := func(name, of string, at int) added {
		return added{at, func(p *api.Prog) { p.Globals = append(p.Globals, param(name, of, at)) }}
	}
	parameter := func(function, name, of string, at int) added {
		return added{at, func(p *api.Prog) {
			f := functionOf(p, function)
			f.Params = append(f.Params, param(name, of, at))
		}}
	}
	result := func(function string, at int) added {
		return added{at, func(p *api.Prog) {
			f := functionOf(p, function)
			f.Has, f.Result = true, api.Of{Name: "X"}
		}}
	}
	record := func(name string, at int) added {
		return added{at, func(p *api.Prog) {
			p.Recs = append(p.Recs, api.Rec{Name: name, At: at, Fields: []api.Param{param("a", "int", 0)}})
		}}
	}
	function := func(name string, at int) added {
		return added{at, func(p *api.Prog) { p.Funcs = append(p.Funcs, api.Func{Name: name, At: at}) }}
	}
	return []added{
		record("A", 99), record("B", 98), field(0, "a", "int", 97), field(0, "c", "X", 96), field(0, "b", "X", 95), field(1, "b", "X", 94), field(1, "a", "A", 93), global("g", "int", 92), global("i", "X", 91), global("g", "X", 90),
		parameter("f", "b", "X", 89), parameter("f", "a", "int", 88), result("f", 7), result("main", 9), parameter("h", "a", "int", 87), parameter("h", "c", "X", 86), result("h", 10), function("f", 85), function("main", 84), function("h", 83),
		{0, func(p *api.Prog) {
			f := functionOf(p, "main")
			f.Params = append(f.Params, param("a", "int", 82))
		}},
	}
}

// functionOf is the first function of a name.
func functionOf(p *api.Prog, name string) *api.Func {
	return &p.Funcs[slices.IndexFunc(p.Funcs, func(f api.Func) bool { return f.Name == name })]
}

// P7.2: of the errors that a program contains, up to three at once, the first one in the document's order is returned, with its
// own place.
func TestFirstFault(t *testing.T) {
	list := faults()
	for i := range list {
		for j := i; j < len(list); j++ {
			for k := j; k < len(list); k++ {
				p := sample()
				list[i].add(&p)
				if j > i {
					list[j].add(&p)
				}
				if k > j {
					list[k].add(&p)
				}
				checkRefused(t, p, list[i].at)
			}
		}
	}
}

// P7.2: the same of texts, in which the errors stand in another order than the document has them found.
func TestFirstFaultInTexts(t *testing.T) {
	for _, x := range []struct {
		s  string
		at int
	}{
		{"func f(a:X):Y{}global g:Z;record A{a:V;}record A{}", 47}, {"func f(a:X):Y{}global g:Z;record A{a:V;}", 35}, {"func f(a:X):Y{}global g:Z;", 22}, {"func f(a:X):Y{}", 7}, {"func f():Y{}", 5}, {"func f(){}", 0},
		{"record A{a:X;}record B{b:int;b:int;}func main(){}", 9}, {"record A{a:int;a:int;}record B{b:X;}func main(){}", 15}, {"record A{a:X;b:int;b:int;}func main(){}", 9}, {"record A{b:int;b:int;a:X;}func main(){}", 15},
		{"global g:X;global h:int;global h:int;func main(){}", 7}, {"global h:int;global h:int;global g:X;func main(){}", 20}, {"func main(){}func f(a:X,b:int,b:int){}", 20}, {"func main(){}func f(b:int,b:int,a:X):Y{}", 26},
		{"func main(){}func f():X{}func f(){}", 18}, {"func main(){}func f(){}func f(a:X):Y{}", 28}, {"func f(a:X){}func f(){}func main(){}", 7}, {"func f(){}func f(a:X){}func g():Y{}", 15},
		{"global main:int;func main(a:int):X{}", 21}, {"func main(a:int){}func f(a:X){}", 25}, {"func main():int{}func f(){}func f(){}", 32}, {"global g:A;record A{}record A{}func main(a:int){}", 28},
	} {
		checkTextRefused(t, x.s, x.at)
	}
}
