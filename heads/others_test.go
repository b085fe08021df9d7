package heads_test

import (
	"reflect"
	"strconv"
	"strings"
	"testing"
	"unsafe"

	"runrig/api"
	"runrig/heads"
)

// everything has declarations of each kind, of each length from none on.
const everything = `record A { a: int; b: [B]; } record B { } record C { c: [[A]]; } global g: bool; global h: C;
	func f(a: A, b: bool): [C] { return new [C](1); } func main() { print 1; } func e(c: int): B { let x: int = c; return new B; }`

// parts are all numbers, texts, bools and lists within a value.
func parts(v reflect.Value, do func(v reflect.Value)) {
	switch v.Kind() {
	case reflect.Struct:
		for i := range v.NumField() {
			parts(v.Field(i), do)
		}
		return
	case reflect.Slice:
		for i := range v.Len() {
			parts(v.Index(i), do)
		}
	}
	do(v)
}

// span is a piece of memory.
type span struct {
	from, to uintptr
	list     bool
}

func (a span) meets(b span) bool { return a.from < b.to && b.from < a.to }

// spans are the memory of all texts and lists within a value, of the latter with their capacity.
func spans(v any) []span {
	var list []span
	parts(reflect.ValueOf(v), func(v reflect.Value) {
		switch v.Kind() {
		case reflect.String:
			from := uintptr(unsafe.Pointer(unsafe.StringData(v.String())))
			list = append(list, span{from, from + uintptr(v.Len()), false})
		case reflect.Slice:
			list = append(list, span{v.Pointer(), v.Pointer() + uintptr(v.Cap())*v.Type().Elem().Size(), true})
		}
	})
	return list
}

// W6: what is returned shares no memory with the program, nor with another result, nor do two of its lists.
func TestResultsAreNew(t *testing.T) {
	p := parsed(t, everything)
	first, _ := heads.Make(p)
	second, _ := heads.Make(p)
	if len(first.Sigs) != 3 || !equalHeads(first, second) {
		t.Fatalf("%+v and %+v", first, second)
	}
	outside := append(spans(p), spans(second)...)
	inside := spans(first)
	for i, a := range inside {
		for _, b := range outside {
			if a.meets(b) {
				t.Errorf("a part of %+v is shared", first)
			}
		}
		for _, b := range inside[:i] {
			if a.list && b.list && a.meets(b) {
				t.Errorf("two lists of %+v share memory", first)
			}
		}
	}
}

// widened has each list of a program lie in memory that goes on behind it.
func widened(p *api.Prog) {
	parts(reflect.ValueOf(p).Elem(), func(v reflect.Value) {
		if v.Kind() == reflect.Slice {
			wide := reflect.MakeSlice(v.Type(), v.Len()+2, v.Len()+2)
			reflect.Copy(wide, v)
			v.Set(wide.Slice(0, v.Len()))
		}
	})
}

// behind tells whether a list of a program has anything but zero values in the memory behind it.
func behind(p *api.Prog) bool {
	found := false
	parts(reflect.ValueOf(p).Elem(), func(v reflect.Value) {
		if v.Kind() == reflect.Slice {
			for i := v.Len(); i < v.Cap(); i++ {
				found = found || !v.Slice(0, v.Cap()).Index(i).IsZero()
			}
		}
	})
	return found
}

// W6: arguments stay as they were, and so does the memory behind their lists.
func TestArgumentsStay(t *testing.T) {
	for _, s := range []string{everything, everything + "record A{}", everything + "global i:X;", everything + "func main(){}", "record B{}record A{}record B{}", ""} {
		p, want := parsed(t, s), parsed(t, s)
		widened(&p)
		widened(&want)
		heads.Make(p)
		if !reflect.DeepEqual(p, want) || behind(&p) {
			t.Errorf("%+v was changed to %+v", want, p)
		}
	}
	recs := []string{"B", "A", "B", "", "behind"}
	for _, name := range []string{"A", "B", "C", "int", "behind"} {
		heads.Type(recs[:4], api.Of{Name: name})
	}
	if strings.Join(recs, ",") != "B,A,B,,behind" {
		t.Errorf("the names were changed to %q", recs)
	}
	checkNoType(t, recs[:4], api.Of{Name: "behind"})
}

// W2, W3, W7: declarations depend on the program alone, whatever was made before, and stay as they are whatever becomes of it.
func TestResultsStay(t *testing.T) {
	p := parsed(t, everything)
	got, _ := heads.Make(p)
	want, _ := heads.Make(parsed(t, everything))
	parts(reflect.ValueOf(&p).Elem(), func(v reflect.Value) { v.SetZero() })
	checkRefused(t, p, 0)
	checkTextRefused(t, everything+"record A{}", len(everything)+7)
	if !equalHeads(got, want) {
		t.Errorf("%+v was changed to %+v", want, got)
	}
	checkText(t, everything, want)
}

// W5: empty lists are like lists that are nil.
func TestEmptyLists(t *testing.T) {
	checkMade(t, api.Prog{
		Recs: []api.Rec{{Name: "A", Fields: []api.Param{}}, {Name: "B"}}, Globals: []api.Param{}, Funcs: []api.Func{{Name: "main", Params: []api.Param{}}, {Name: "f", Params: []api.Param{}, Body: []api.Stmt{}}},
	}, api.Heads{Recs: []api.Shape{{Name: "A"}, {Name: "B"}}, Sigs: []api.Sig{mainSig(), {Name: "f"}}})
}

// many is so much of everything, more than a text can have.
func many(count int) api.Prog {
	p := withMain(api.Prog{})
	for i := range count {
		name := strconv.Itoa(i)
		list := []api.Param{param(name, name, 4*i+1)}
		p.Recs = append(p.Recs, api.Rec{Name: name, Fields: list, At: 4 * i})
		p.Globals = append(p.Globals, list...)
		p.Funcs = append(p.Funcs, api.Func{Name: name, Params: list, Has: true, Result: api.Of{Name: name}, At: 4*i + 2})
	}
	p.Recs = append(p.Recs, api.Rec{Name: "all", Fields: p.Globals})
	p.Funcs = append(p.Funcs, api.Func{Name: "all", Params: p.Globals})
	return p
}

// W1: lists far longer than those of a text.
func TestLongLists(t *testing.T) {
	const count = 100000
	p := many(count)
	got, fault := heads.Make(p)
	if fault != (api.Fault{}) || len(got.Recs) != count+1 || len(got.Globals) != count || len(got.Sigs) != count+2 {
		t.Fatalf("%d records, %d globals, %d functions, %v", len(got.Recs), len(got.Globals), len(got.Sigs), fault)
	}
	for _, i := range []int{0, 1, count / 2, count - 1} {
		want := field(strconv.Itoa(i), recs(i, 0))
		if got.Recs[count].Fields[i] != want || got.Globals[i] != want || got.Sigs[count+1].Params[i] != want || got.Recs[i].Fields[0] != want || got.Sigs[i+1].Result != recs(i, 0) {
			t.Errorf("not all types at %d are %v", i, want)
		}
	}
	p.Funcs[count].Result.Name = "X"
	checkFaultOf(t, p, 4*(count-1)+2)
	p.Globals[count-1].Name = "0"
	checkFaultOf(t, p, 4*(count-1)+1)
	p.Recs[count-1].Name = "1"
	checkFaultOf(t, p, 4*(count-1))
}

// checkFaultOf is checkRefused for a program that is too long to be shown.
func checkFaultOf(t *testing.T, p api.Prog, at int) {
	t.Helper()
	got, fault := heads.Make(p)
	if want := (api.Fault{E: api.ErrType, At: at}); fault != want || !reflect.DeepEqual(got, api.Heads{}) {
		t.Errorf("%v; want %v", fault, want)
	}
}

// W1: names of any length, also where two of them differ only at their ends.
func TestLongNames(t *testing.T) {
	long := strings.Repeat("name", 1<<18)
	p := withMain(api.Prog{
		Recs:    []api.Rec{{Name: long + "a", Fields: []api.Param{param(long, long+"b", 1)}}, {Name: long + "b"}},
		Globals: []api.Param{param(long, long+"a", 2), param(long+"g", long+"b", 3)},
		Funcs:   []api.Func{{Name: long, Params: []api.Param{param(long, "int", 4)}, Has: true, Result: api.Of{Name: long + "b", Dims: 1}, At: 5}},
	})
	got, fault := heads.Make(p)
	if fault != (api.Fault{}) || got.Recs[0].Name != long+"a" || got.Recs[0].Fields[0] != field(long, recs(1, 0)) || got.Globals[1] != field(long+"g", recs(1, 0)) || got.Sigs[1].Result != recs(1, 1) {
		t.Errorf("long names are not taken over; %v", fault)
	}
	p.Funcs[1].Result.Name = long + "c"
	checkFaultOf(t, p, 5)
	p.Globals[0].Name = long + "g"
	checkFaultOf(t, p, 3)
}
