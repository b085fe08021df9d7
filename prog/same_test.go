package prog_test

import (
	"reflect"
	"slices"
	"strings"
	"testing"
	"unsafe"

	"runrig/api"
	"runrig/prog"
)

// checkSame wants Same to answer this, in both directions.
func checkSame(t *testing.T, a, b api.Prog, want bool, what string) {
	t.Helper()
	if prog.Same(a, b) != want || prog.Same(b, a) != want {
		t.Errorf("%s: Same is not %t of %+v and %+v", what, want, a, b)
	}
}

// visit goes to all numbers, texts, bools and lists within a value, with the names of their fields.
func visit(v reflect.Value, name string, do func(v reflect.Value, name string)) {
	switch v.Kind() {
	case reflect.Struct:
		for i := range v.NumField() {
			visit(v.Field(i), v.Type().Field(i).Name, do)
		}
		return
	case reflect.Slice:
		for i := range v.Len() {
			visit(v.Index(i), name, do)
		}
	}
	do(v, name)
}

func visitProg(p *api.Prog, do func(v reflect.Value, name string)) {
	visit(reflect.ValueOf(p).Elem(), "", do)
}

// changes are all ways in which a number, a text, a bool or a list is changed.
func changes(v reflect.Value) []func() {
	switch v.Kind() {
	case reflect.Int:
		return []func(){func() { v.SetInt(v.Int() + 1) }, func() { v.SetInt(v.Int() - 1<<60) }}
	case reflect.String:
		return []func(){func() { v.SetString(v.String() + "x") }, func() { v.SetString("\x00") }}
	case reflect.Bool:
		return []func(){func() { v.SetBool(!v.Bool()) }}
	}
	list := []func(){func() { v.Set(reflect.Append(v, reflect.Zero(v.Type().Elem()))) }}
	if n := v.Len(); n > 0 {
		list = append(list, func() { v.SetLen(n - 1) }, func() { v.Set(reflect.AppendSlice(v, v.Slice(n-1, n))) })
	}
	if v.Len() > 1 {
		list = append(list, func() { reflect.Swapper(v.Interface())(0, v.Len()-1) })
	}
	return list
}

// changePart changes the part of a program with this number in one of up to four ways; false if there is no such way.
func changePart(p *api.Prog, number, way int) bool {
	seen, changed := 0, false
	visitProg(p, func(v reflect.Value, _ string) {
		if ways := changes(v); seen == number && way < len(ways) {
			ways[way]()
			changed = true
		}
		seen++
	})
	return changed
}

// P5.2: of a program with every form of declaration each field is changed, at any depth: places do not matter, all others do.
func TestSameOfEachField(t *testing.T) {
	original := parsed(t, everyDeclaration)
	checkSame(t, original, parsed(t, everyDeclaration), true, "parsed twice")
	var parts []string
	visitProg(&original, func(_ reflect.Value, name string) { parts = append(parts, name) })
	for number, name := range parts {
		for way := range 4 {
			p := parsed(t, everyDeclaration)
			if changePart(&p, number, way) {
				checkSame(t, original, p, name == "At", name)
			}
		}
	}
}

// P5.2: texts that differ in one thing each.
func TestSameOfTexts(t *testing.T) {
	const text = "record R { a: int; } global g: int; func f(x: int, y: R): [int] { print 1; }"
	p := parsed(t, text)
	for _, change := range [][2]string{
		{"record R", "record Q"}, {" a:", " b:"}, {"a: int", "a: bool"}, {"a: int", "a: [int]"}, {"a: int;", ""}, {"a: int;", "a: int; b: int;"}, {" g:", " h:"}, {"g: int", "g: R"}, {"g: int", "g: [[int]]"},
		{"global g: int;", ""}, {"record R { a: int; }", ""}, {"global", "record S { } global"}, {"global", "global h: int; global"}, {"func", "func e() { } func"}, {"func f", "func g"}, {"x: int", "z: int"},
		{"x: int", "x: [int]"}, {"x: int, ", ""}, {"y: R", "y: R, z: R"}, {"x: int, y: R", "y: R, x: int"}, {"): [int]", ")"}, {"): [int]", "): int"}, {"): [int]", "): [bool]"}, {"print 1", "print 2"},
		{"print 1", "return 1"}, {"print 1;", ""}, {"print 1;", "print 1; print 1;"}, {"print 1", "if 1 { } print 1"},
	} {
		other := strings.Replace(text, change[0], change[1], 1)
		if other == text {
			t.Errorf("%q is not in the text", change[0])
		}
		checkSame(t, p, parsed(t, other), false, other)
	}
	for _, other := range []string{
		" " + text, strings.ReplaceAll(text, " ", " \n\t"), strings.ReplaceAll(text, " ", " // x\n"), strings.ReplaceAll(text, "; ", ";"), strings.ReplaceAll(text, "1", "((1))"), text + "//",
	} {
		checkSame(t, p, parsed(t, other), true, other)
	}
}

// P5.2: nil lists are empty ones (W5), and a list that is not empty is neither.
func TestSameOfEmptyLists(t *testing.T) {
	empty := api.Prog{Recs: []api.Rec{}, Globals: []api.Param{}, Funcs: []api.Func{}}
	checkSame(t, api.Prog{}, api.Prog{}, true, "nothing")
	checkSame(t, api.Prog{}, empty, true, "empty lists")
	checkSame(t, records(api.Rec{}), records(api.Rec{Fields: []api.Param{}}), true, "empty fields")
	checkSame(t, functions(api.Func{}), functions(api.Func{Params: []api.Param{}, Body: []api.Stmt{}}), true, "empty parameters")
	lists := []api.Prog{records(api.Rec{}), globals(api.Param{}), functions(api.Func{}), {}}
	for i, a := range lists {
		for j, b := range lists {
			checkSame(t, a, b, i == j, "lists of one")
		}
	}
	checkSame(t, functions(api.Func{}), functions(api.Func{Has: true}), false, "results")
}

// P5.2: statements that are nested deeply, and differ in the innermost one.
func TestSameOfDeepPrograms(t *testing.T) {
	deep := func(kind int) api.Prog {
		s := api.Stmt{Kind: kind}
		for range 1<<16 - 4 {
			s = api.Stmt{Body: []api.Stmt{s}}
		}
		return functions(api.Func{Body: []api.Stmt{s}})
	}
	if !prog.Same(deep(1), deep(1)) || prog.Same(deep(1), deep(2)) {
		t.Error("the innermost statements decide")
	}
}

// interleaved are all ways to mix lists each of which stays in its order.
func interleaved(lists [][]string) []string {
	var all []string
	for i, list := range lists {
		if len(list) > 0 {
			rest := slices.Clone(lists)
			rest[i] = list[1:]
			for _, s := range interleaved(rest) {
				all = append(all, list[0]+s)
			}
		}
	}
	if all == nil {
		return []string{""}
	}
	return all
}

// P5.3: records, globals and functions in any order yield the same program, each at its place.
func TestInterleavedDeclarations(t *testing.T) {
	lists := [][]string{
		{"record R { a: int; } ", "record Q { } "}, {"global h: int; ", "global g: [R]; "}, {"func f(a: Q, b: R): int { return 1; } ", "func main() { f(null Q, new R); } ", "func e(): Q { } "},
	}
	texts := interleaved(lists)
	want := parsed(t, strings.Join(slices.Concat(lists...), ""))
	if len(texts) != 210 || len(want.Recs) != 2 || len(want.Globals) != 2 || len(want.Funcs) != 3 {
		t.Errorf("%d texts of %+v", len(texts), want)
	}
	for _, s := range texts {
		p := parsed(t, s)
		checkSame(t, p, want, true, s)
		checkNamesAtPlaces(t, s, p)
	}
}

// checkNamesAtPlaces wants the name of each declaration to stand in the text at its place.
func checkNamesAtPlaces(t *testing.T, s string, p api.Prog) {
	t.Helper()
	at := func(place int, name string) {
		if !strings.HasPrefix(s[place:], name) {
			t.Errorf("%q does not stand at %d of %q", name, place, s)
		}
	}
	for _, rec := range p.Recs {
		at(rec.At, rec.Name+" {")
		for _, field := range rec.Fields {
			at(field.At, field.Name+": ")
		}
	}
	for _, g := range p.Globals {
		at(g.At, g.Name+": ")
	}
	for _, f := range p.Funcs {
		at(f.At, f.Name+"(")
		for _, param := range f.Params {
			at(param.At, param.Name+": ")
		}
	}
}

// P5.3: the declarations that follow do not change the ones before.
func TestDeclarationsOnTheirOwn(t *testing.T) {
	parts := []string{"record R { a: int; } ", "global h: int; ", "func f(a: Q, b: R): int { return 1; } ", "record Q { } ", "func main() { f(null Q, new R); } ", "global g: [R]; "}
	var want api.Prog
	for i, part := range parts {
		one := parsed(t, strings.Repeat(" ", len(strings.Join(parts[:i], "")))+part)
		want.Recs = append(want.Recs, one.Recs...)
		want.Globals = append(want.Globals, one.Globals...)
		want.Funcs = append(want.Funcs, one.Funcs...)
		checkParsed(t, strings.Join(parts[:i+1], ""), want)
	}
}

// memory is a part of memory.
type memory struct{ from, size uintptr }

func (m memory) overlaps(other memory) bool {
	return m.size > 0 && other.size > 0 && m.from < other.from+other.size && other.from < m.from+m.size
}

func memoryOf(s string) memory {
	return memory{uintptr(unsafe.Pointer(unsafe.StringData(s))), uintptr(len(s))}
}

// memories are the memory of all lists of a program, with their capacity, and of all its texts.
func memories(p *api.Prog) (lists, texts []memory) {
	visitProg(p, func(v reflect.Value, _ string) {
		switch v.Kind() {
		case reflect.Slice:
			lists = append(lists, memory{v.Pointer(), uintptr(v.Cap()) * v.Type().Elem().Size()})
		case reflect.String:
			texts = append(texts, memoryOf(v.String()))
		}
	})
	return lists, texts
}

// W6: a result shares no memory with the text or another result, and no two lists of it share any.
func TestResultsAreNew(t *testing.T) {
	first, second := parsed(t, everyDeclaration), parsed(t, everyDeclaration)
	lists, texts := memories(&first)
	others, otherTexts := memories(&second)
	for _, text := range append(texts, otherTexts...) {
		if text.overlaps(memoryOf(everyDeclaration)) {
			t.Error("a name lies within the text")
		}
	}
	all := append(lists, others...)
	for i, a := range all {
		if slices.ContainsFunc(all[:i], a.overlaps) {
			t.Errorf("%v is shared", a)
		}
	}
}

// W7: a result stays as it is when another one is changed, and when something else is parsed.
func TestResultsStay(t *testing.T) {
	kept, changed := parsed(t, everyDeclaration), parsed(t, everyDeclaration)
	visitProg(&changed, func(v reflect.Value, _ string) {
		for _, change := range changes(v) {
			change()
		}
	})
	for _, s := range []string{"record X { }", "func f() {", "#", everyDeclaration + " }"} {
		prog.Parse(s)
	}
	checkParsed(t, everyDeclaration, kept)
}
