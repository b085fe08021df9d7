package heads_test

import (
	"math"
	"reflect"
	"slices"
	"strconv"
	"testing"

	"runrig/api"
	"runrig/heads"
	"runrig/prog"
)

// equalHeads holds all fields against each other; nil lists are empty ones (W5).
func equalHeads(a, b api.Heads) bool {
	return slices.EqualFunc(a.Recs, b.Recs, equalShapes) && slices.Equal(a.Globals, b.Globals) && slices.EqualFunc(a.Sigs, b.Sigs, equalSigs) && a.Main == b.Main
}

func equalShapes(a, b api.Shape) bool { return a.Name == b.Name && slices.Equal(a.Fields, b.Fields) }

func equalSigs(a, b api.Sig) bool {
	return a.Name == b.Name && slices.Equal(a.Params, b.Params) && a.Has == b.Has && a.Result == b.Result
}

func checkMade(t *testing.T, p api.Prog, want api.Heads) {
	t.Helper()
	got, fault := heads.Make(p)
	if fault != (api.Fault{}) || !equalHeads(got, want) {
		t.Errorf("Make(%+v) = %+v, %v; want %+v", p, got, fault, want)
	}
}

// checkRefused wants ErrType at this place, and no declarations beside it (W3).
func checkRefused(t *testing.T, p api.Prog, at int) {
	t.Helper()
	got, fault := heads.Make(p)
	if want := (api.Fault{E: api.ErrType, At: at}); fault != want || !reflect.DeepEqual(got, api.Heads{}) {
		t.Errorf("Make(%+v) = %+v, %v; want %v", p, got, fault, want)
	}
}

// parsed is the program of a text that is one.
func parsed(t *testing.T, s string) api.Prog {
	t.Helper()
	p, fault := prog.Parse(s)
	if fault != (api.Fault{}) {
		t.Fatalf("Parse(%q): %v", s, fault)
	}
	return p
}

func checkText(t *testing.T, s string, want api.Heads) {
	t.Helper()
	checkMade(t, parsed(t, s), want)
}

func checkTextRefused(t *testing.T, s string, at int) {
	t.Helper()
	checkRefused(t, parsed(t, s), at)
}

func integers(dims int) api.Type  { return api.Type{Base: api.TInt, Dims: dims} }
func booleans(dims int) api.Type  { return api.Type{Base: api.TBool, Dims: dims} }
func recs(rec, dims int) api.Type { return api.Type{Base: api.TRec, Rec: rec, Dims: dims} }

func mainSig() api.Sig { return api.Sig{Name: "main"} }

func field(name string, t api.Type) api.Field { return api.Field{Name: name, Type: t} }

func shape(name string, fields ...api.Field) api.Shape {
	return api.Shape{Name: name, Fields: fields}
}

// param is a declaration of a name that has a type without dimensions.
func param(name, of string, at int) api.Param {
	return api.Param{Name: name, Of: api.Of{Name: of}, At: at}
}

// withMain are declarations, with a function main ahead of the others.
func withMain(p api.Prog) api.Prog {
	p.Funcs = slices.Concat([]api.Func{{Name: "main", At: -1}}, p.Funcs)
	return p
}

// P7.2: records as Shapes.
func TestRecords(t *testing.T) {
	checkText(t, "func main(){}", api.Heads{Sigs: []api.Sig{mainSig()}})
	checkText(t, "record A{}func main(){}", api.Heads{Recs: []api.Shape{{Name: "A"}}, Sigs: []api.Sig{mainSig()}})
	checkText(t, "record A{a:A;}func main(){}", api.Heads{Recs: []api.Shape{shape("A", field("a", recs(0, 0)))}, Sigs: []api.Sig{mainSig()}})
	checkText(t, "func main(){}record A{a:int;b:bool;c:[int];d:[[bool]];e:B;f:[[[B]]];A:A;}record B{a:[A];}record C{}", api.Heads{
		Recs: []api.Shape{
			shape("A", field("a", integers(0)), field("b", booleans(0)), field("c", integers(1)), field("d", booleans(2)), field("e", recs(1, 0)), field("f", recs(1, 3)), field("A", recs(0, 0))),
			shape("B", field("a", recs(0, 1))), {Name: "C"},
		},
		Sigs: []api.Sig{mainSig()},
	})
}

// P7.2: globals as Fields.
func TestGlobals(t *testing.T) {
	checkText(t, "global g:int;func main(){}", api.Heads{Globals: []api.Field{field("g", integers(0))}, Sigs: []api.Sig{mainSig()}})
	checkText(t, "global b:[[[B]]];global c:A;record A{}global a:[bool];func main(){}record B{}global B:B;", api.Heads{
		Recs: []api.Shape{{Name: "A"}, {Name: "B"}}, Globals: []api.Field{field("b", recs(1, 3)), field("c", recs(0, 0)), field("a", booleans(1)), field("B", recs(1, 0))}, Sigs: []api.Sig{mainSig()},
	})
}

// P7.2: functions as Sigs, with and without parameters and a result.
func TestFunctions(t *testing.T) {
	checkText(t, "func f(){}func main(){return;}func g():int{return 1;}func h(a:A):[[A]]{}func i(b:bool,a:[A],c:[[[int]]]){}record A{}", api.Heads{
		Recs: []api.Shape{{Name: "A"}},
		Sigs: []api.Sig{
			{Name: "f"}, mainSig(), {Name: "g", Has: true, Result: integers(0)}, {Name: "h", Params: []api.Field{field("a", recs(0, 0))}, Has: true, Result: recs(0, 2)},
			{Name: "i", Params: []api.Field{field("b", booleans(0)), field("a", recs(0, 1)), field("c", integers(3))}},
		},
		Main: 1,
	})
}

// P7.2: what is undefined, repeated or without sense in a body is no matter of its declaration.
func TestBodies(t *testing.T) {
	want := api.Heads{Sigs: []api.Sig{mainSig(), {Name: "f", Params: []api.Field{field("a", integers(0))}, Has: true, Result: booleans(0)}}}
	checkText(t, "func main(){x=1;f(2);return 3;}func f(a:int):bool{var a:X;let a:int=true;print null Y;}", want)
	checkText(t, "func main(){}func f(a:int):bool{return a;}", want)
}

// P7.2: the Result of a function that has none means nothing.
func TestResultThatIsNone(t *testing.T) {
	for _, o := range []api.Of{{}, {Name: "int"}, {Name: "A", Dims: 1}, {Name: "X"}, {Name: "int", Dims: -1}, {Name: "bool", Dims: api.MaxDims + 1}} {
		checkMade(t, api.Prog{Recs: []api.Rec{{Name: "A"}}, Funcs: []api.Func{{Name: "f", Result: o}, {Name: "main", Result: o}}},
			api.Heads{Recs: []api.Shape{{Name: "A"}}, Sigs: []api.Sig{{Name: "f"}, mainSig()}, Main: 1})
	}
}

// place is where a declaration contains a type: a program that contains a given one there, and the one that is known then.
type place struct {
	prog func(o api.Of, at int) api.Prog
	made func(h *api.Heads, t api.Type)
}

// places are all of them; each program has the records A and B, of which the latter is empty.
func places() []place {
	known := func(fields ...api.Param) []api.Rec {
		return []api.Rec{{Name: "A", Fields: fields, At: -2}, {Name: "B", At: -3}}
	}
	return []place{
		{func(o api.Of, at int) api.Prog {
			return api.Prog{Recs: known(param("a", "B", -4), api.Param{Name: "b", Of: o, At: at}, param("c", "int", -5))}
		}, func(h *api.Heads, t api.Type) {
			h.Recs[0].Fields = []api.Field{field("a", recs(1, 0)), field("b", t), field("c", integers(0))}
		}},
		{func(o api.Of, at int) api.Prog {
			return api.Prog{Recs: known(), Globals: []api.Param{param("g", "bool", -4), {Name: "h", Of: o, At: at}}}
		}, func(h *api.Heads, t api.Type) {
			h.Globals = []api.Field{field("g", booleans(0)), field("h", t)}
		}},
		{func(o api.Of, at int) api.Prog {
			return api.Prog{Recs: known(), Funcs: []api.Func{{Name: "f", At: -4, Params: []api.Param{param("a", "int", -5), {Name: "b", Of: o, At: at}}}}}
		}, func(h *api.Heads, t api.Type) {
			h.Sigs = append(h.Sigs, api.Sig{Name: "f", Params: []api.Field{field("a", integers(0)), field("b", t)}})
		}},
		{func(o api.Of, at int) api.Prog {
			return api.Prog{Recs: known(), Funcs: []api.Func{{Name: "f", Params: []api.Param{param("a", "A", -4)}, Has: true, Result: o, At: at}}}
		}, func(h *api.Heads, t api.Type) {
			h.Sigs = append(h.Sigs, api.Sig{Name: "f", Params: []api.Field{field("a", recs(0, 0))}, Has: true, Result: t})
		}},
	}
}

// P7.2: each type in each place.
func TestEachTypeInEachPlace(t *testing.T) {
	for _, x := range places() {
		for name, base := range map[string]api.Type{"int": integers(0), "bool": booleans(0), "A": recs(0, 0), "B": recs(1, 0)} {
			for dims := range api.MaxDims + 1 {
				want := api.Heads{Recs: []api.Shape{{Name: "A"}, {Name: "B"}}, Sigs: []api.Sig{mainSig()}}
				base.Dims = dims
				x.made(&want, base)
				checkMade(t, withMain(x.prog(api.Of{Name: name, Dims: dims}, 7)), want)
			}
		}
	}
}

// P7.2: a type that does not exist is refused in each place, at the declaration that contains it.
func TestTypesThatDoNotExist(t *testing.T) {
	for _, x := range places() {
		for _, at := range []int{0, 1, 7, 1 << 40, -9, math.MaxInt, math.MinInt} {
			for _, name := range []string{"C", "a", "AB", "", "A ", "Int", "f", "g", "main", "null"} {
				for dims := range api.MaxDims + 1 {
					checkRefused(t, withMain(x.prog(api.Of{Name: name, Dims: dims}, at)), at)
				}
			}
			for _, name := range []string{"int", "bool", "A", "B", "C", ""} {
				for _, dims := range strangeDims() {
					checkRefused(t, withMain(x.prog(api.Of{Name: name, Dims: dims}, at)), at)
				}
			}
		}
	}
}

// P7.2: of two types that do not exist the first one is told, by its own place.
func TestFirstTypeThatDoesNotExist(t *testing.T) {
	checkTextRefused(t, "record A{a:int;b:X;c:Y;}record B{a:Z;}func main(){}", 15)
	checkTextRefused(t, "record A{a:int;b:A;}record B{a:Z;b:X;}func main(){}", 29)
	checkTextRefused(t, "global g:int;global h:X;global i:Y;func main(){}", 20)
	checkTextRefused(t, "func main(){}func f(a:int,b:X,c:Y):Z{}func g(a:X){}", 26)
	checkTextRefused(t, "func main(){}func f(a:int):Z{}func g(a:X):Y{}", 18)
}

// P7.2: a record may be named int or bool; then the types of these names are still what they are.
func TestRecordsNamedLikeTypes(t *testing.T) {
	checkMade(t, withMain(api.Prog{
		Recs:    []api.Rec{{Name: "int", Fields: []api.Param{param("a", "int", 1), param("b", "bool", 2), param("c", "A", 3)}}, {Name: "bool"}, {Name: "A"}},
		Globals: []api.Param{param("int", "bool", 4), param("bool", "int", 5)},
		Funcs:   []api.Func{{Name: "int", Params: []api.Param{param("bool", "bool", 6)}, Has: true, Result: api.Of{Name: "int", Dims: 1}}},
	}), api.Heads{
		Recs:    []api.Shape{shape("int", field("a", integers(0)), field("b", booleans(0)), field("c", recs(2, 0))), {Name: "bool"}, {Name: "A"}},
		Globals: []api.Field{field("int", booleans(0)), field("bool", integers(0))},
		Sigs:    []api.Sig{mainSig(), {Name: "int", Params: []api.Field{field("bool", booleans(0))}, Has: true, Result: integers(1)}},
	})
	checkRefused(t, withMain(api.Prog{Recs: []api.Rec{{Name: "int", At: 1}, {Name: "int", At: 2}}}), 2)
}

// P7.2: names are not checked but for being different; they may be empty or contain any bytes.
func TestAnyNames(t *testing.T) {
	names := []string{"", " ", "if", "record", "1", "x y", "\x00", "\xff\xfe", "[A]", "main ", "Main", "mai", "\u00e4", "a name of more bytes than there may be"}
	p, want := withMain(api.Prog{}), api.Heads{Sigs: []api.Sig{mainSig()}}
	var list []api.Param
	var fields []api.Field
	for i, name := range names {
		list, fields = append(list, param(name, name, i)), append(fields, api.Field{Name: name, Type: recs(i, 0)})
	}
	for i, name := range names {
		p.Recs, want.Recs = append(p.Recs, api.Rec{Name: name, Fields: list, At: i}), append(want.Recs, api.Shape{Name: name, Fields: fields})
		p.Funcs = append(p.Funcs, api.Func{Name: name, Params: list, Has: true, Result: api.Of{Name: name}, At: i})
		want.Sigs = append(want.Sigs, api.Sig{Name: name, Params: fields, Has: true, Result: recs(i, 0)})
	}
	p.Globals, want.Globals = list, fields
	checkMade(t, p, want)
}

// P7.2: a name may stand in many lists, and in two of one kind.
func TestOneNameInManyLists(t *testing.T) {
	checkText(t, "record main{main:main;}record B{main:int;}global main:main;func f(main:main):main{}func main(){}func g(main:B,f:int,g:int){}global f:int;record f{f:f;}", api.Heads{
		Recs:    []api.Shape{shape("main", field("main", recs(0, 0))), shape("B", field("main", integers(0))), shape("f", field("f", recs(2, 0)))},
		Globals: []api.Field{field("main", recs(0, 0)), field("f", integers(0))},
		Sigs: []api.Sig{
			{Name: "f", Params: []api.Field{field("main", recs(0, 0))}, Has: true, Result: recs(0, 0)}, mainSig(),
			{Name: "g", Params: []api.Field{field("main", recs(1, 0)), field("f", integers(0)), field("g", integers(0))}},
		},
		Main: 1,
	})
}

// listed are declarations of these names, at the places from at on, of the types of these names or, without any, of int.
func listed(at int, names []string, types ...string) []api.Param {
	var list []api.Param
	for i, name := range names {
		of := api.Of{Name: "int", Dims: i % (api.MaxDims + 1)}
		if len(types) > 0 {
			of.Name = types[i]
		}
		list = append(list, api.Param{Name: name, Of: of, At: at + i})
	}
	return list
}

// lists are the lists in which no name may stand twice: programs with given names there, all of which can be resolved.
func lists() map[string]func(names []string) api.Prog {
	return map[string]func(names []string) api.Prog{
		"records": func(names []string) api.Prog {
			var p api.Prog
			for i, name := range names {
				p.Recs = append(p.Recs, api.Rec{Name: name, At: 100 + i, Fields: listed(1, names[:i%2])})
			}
			return p
		},
		"functions": func(names []string) api.Prog {
			var p api.Prog
			for i, name := range names {
				p.Funcs = append(p.Funcs, api.Func{Name: name, At: 100 + i, Params: listed(1, names[:i%2])})
			}
			return p
		},
		"globals": func(names []string) api.Prog { return api.Prog{Globals: listed(100, names)} },
		"fields": func(names []string) api.Prog {
			return api.Prog{Recs: []api.Rec{{}, {Name: "B", Fields: listed(100, names)}}}
		},
		"parameters": func(names []string) api.Prog {
			return api.Prog{Funcs: []api.Func{{Name: "a"}, {Name: "B", Params: listed(100, names)}}}
		},
	}
}

// P7.2: a second item of a name is refused in each list, at its own place, wherever the first one stands.
func TestNamesThatStandTwice(t *testing.T) {
	names := []string{"a", "b", "c", "", "A", "aa", "int"}
	for kind, list := range lists() {
		if _, fault := heads.Make(withMain(list(names))); fault != (api.Fault{}) {
			t.Errorf("%s: %v", kind, fault)
		}
		for first := range names {
			for second := first + 1; second <= len(names); second++ {
				twice := slices.Insert(slices.Clone(names), second, names[first])
				checkRefused(t, withMain(list(twice)), 100+second)
				// A third item, and another one that stands twice, come behind it.
				checkRefused(t, withMain(list(append(twice, names[first], names[0]))), 100+second)
			}
		}
	}
}

// P7.2: the places of repeated names in a text.
func TestNamesThatStandTwiceInTexts(t *testing.T) {
	checkTextRefused(t, "func main(){}record A{}record B{}record A{}", 40)
	checkTextRefused(t, "record A{a:int;b:int;a:A;}func main(){}", 21)
	checkTextRefused(t, "global g:int;global h:int;global h:bool;func main(){}", 33)
	checkTextRefused(t, "func main(){}func f(){}func g(){}func f(a:int):int{}", 38)
	checkTextRefused(t, "func main(){}func f(a:int,b:int,c:int,b:int){}", 38)
}

// P7.2: Main is where the function main stands.
func TestMainIndex(t *testing.T) {
	for count := range api.MaxFuncs {
		for main := range count + 1 {
			var p api.Prog
			var want api.Heads
			for i := range count {
				p.Funcs, want.Sigs = append(p.Funcs, api.Func{Name: "f" + strconv.Itoa(i)}), append(want.Sigs, api.Sig{Name: "f" + strconv.Itoa(i)})
			}
			p.Funcs, want.Sigs, want.Main = slices.Insert(p.Funcs, main, api.Func{Name: "main", At: 3}), slices.Insert(want.Sigs, main, mainSig()), main
			checkMade(t, p, want)
		}
	}
}

// P7.2: without a function main that has neither parameters nor a result, there is a fault at 0.
func TestNoMain(t *testing.T) {
	checkRefused(t, api.Prog{}, 0)
	checkRefused(t, api.Prog{Recs: []api.Rec{}, Globals: []api.Param{}, Funcs: []api.Func{}}, 0)
	for _, s := range []string{
		"", "func f(){}", "record main{}global main:int;", "record main{main:main;}func f(main:main){}", "func Main(){}func mainA(){}func mai(){}", "func main(a:int){}", "func main(a:int,b:int){}", "func main():int{}",
		"func main():A{}record A{}", "func main(a:A):A{}record A{}", "func f(){}func main(a:int){}func g(){}", "func f(){}func main():int{}func g(){}", "record A{a:A;}global g:[A];func f(a:A):A{}",
	} {
		checkTextRefused(t, s, 0)
	}
	for _, name := range []string{"", "MAIN", " main", "main ", "main\x00", "m", "mainmain"} {
		checkRefused(t, api.Prog{Funcs: []api.Func{{Name: name, At: 5}}}, 0)
	}
}

// P7.2: a second function main is refused like any other one, whichever of the two could begin.
func TestManyMains(t *testing.T) {
	checkTextRefused(t, "func main(){}func main(){}", 18)
	checkTextRefused(t, "func main(a:int){}func main(){}", 23)
	checkTextRefused(t, "func main():int{}func main(){}", 22)
	checkTextRefused(t, "func main(){}func main(a:int):int{}", 18)
	checkTextRefused(t, "func main(){}func f(){}func main(){}func main(){}", 28)
	checkTextRefused(t, "func main(a:X){}func main(){}", 10)
}

// numbered are so many names, which begin alike.
func numbered(begin string, count int) []string {
	var names []string
	for i := range count {
		names = append(names, begin+strconv.Itoa(i))
	}
	return names
}

// full is a program with as many declarations as a text may have: each item of a list has its index in its name.
func full() api.Prog {
	var p api.Prog
	records := numbered("R", api.MaxRecs)
	for i, name := range records {
		p.Recs = append(p.Recs, api.Rec{Name: name, At: i, Fields: listed(100+10*i, numbered("a", api.MaxFields), records...)})
	}
	p.Globals = listed(300, numbered("a", api.MaxGlobals), records...)
	for i, name := range numbered("f", api.MaxFuncs-1) {
		params := listed(401+10*i, numbered("a", api.MaxParams), records...)
		p.Funcs = append(p.Funcs, api.Func{Name: name, At: 400 + 10*i, Params: params, Has: true, Result: api.Of{Name: "R11"}})
	}
	p.Funcs = append(p.Funcs, api.Func{Name: "main", At: 600})
	return p
}

// P7.2: the last one of as many declarations as a text may have counts like the others.
func TestFullPrograms(t *testing.T) {
	p := full()
	if got, fault := heads.Make(p); fault != (api.Fault{}) || got.Main != api.MaxFuncs-1 || got.Recs[11].Fields[7] != field("a7", recs(7, 3)) || got.Globals[7] != field("a7", recs(7, 3)) ||
		got.Sigs[14].Params[5] != field("a5", recs(5, 1)) || got.Sigs[14].Result != recs(11, 0) {
		t.Errorf("Make(%+v) = %+v, %v", p, got, fault)
	}
	for _, x := range []struct {
		damage func(p *api.Prog)
		at     int
	}{
		{func(p *api.Prog) { p.Recs[11].Name = "R10" }, 11}, {func(p *api.Prog) { p.Recs[11].Fields[7].Name = "a0" }, 217}, {func(p *api.Prog) { p.Recs[11].Fields[7].Of.Name = "R12" }, 217},
		{func(p *api.Prog) { p.Globals[7].Name = "a6" }, 307}, {func(p *api.Prog) { p.Globals[7].Of.Name = "a7" }, 307}, {func(p *api.Prog) { p.Funcs[14].Name = "f13" }, 540},
		{func(p *api.Prog) { p.Funcs[14].Params[5].Name = "a4" }, 546}, {func(p *api.Prog) { p.Funcs[14].Params[5].Of.Dims = 4 }, 546}, {func(p *api.Prog) { p.Funcs[14].Result.Name = "" }, 540},
		{func(p *api.Prog) { p.Funcs[15].Name = "f0" }, 600}, {func(p *api.Prog) { p.Funcs[15].Has = true }, 600}, {func(p *api.Prog) { p.Funcs[15].Name = "f15" }, 0},
	} {
		p := full()
		x.damage(&p)
		checkRefused(t, p, x.at)
	}
}
