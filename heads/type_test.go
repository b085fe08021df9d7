package heads_test

import (
	"math"
	"slices"
	"strings"
	"testing"

	"runrig/api"
	"runrig/heads"
)

func checkType(t *testing.T, recs []string, o api.Of, want api.Type) {
	t.Helper()
	if got, ok := heads.Type(recs, o); got != want || !ok {
		t.Errorf("Type(%q, %+v) = %+v, %t; want %+v", recs, o, got, ok, want)
	}
}

// checkNoType wants false, and the zero Type beside it (W3).
func checkNoType(t *testing.T, recs []string, o api.Of) {
	t.Helper()
	if got, ok := heads.Type(recs, o); got != (api.Type{}) || ok {
		t.Errorf("Type(%q, %+v) = %+v, %t; want none", recs, o, got, ok)
	}
}

// strangeDims are numbers of dimensions that no type has.
func strangeDims() []int {
	return []int{math.MinInt, math.MinInt32, -api.MaxDims - 1, -api.MaxDims, -2, -1, api.MaxDims + 1, api.MaxDims + 2, 1 << 8, 1 << 16, 1 << 32, 1<<32 + 1, math.MaxInt}
}

// P7.1: int and bool denote their types with 0 to MaxDims dimensions, whichever records there are: also records of these names.
func TestIntAndBool(t *testing.T) {
	for _, recs := range [][]string{nil, {}, {"A"}, {"int"}, {"bool"}, {"bool", "int"}, {"int", "bool", "int", "bool"}, {"A", "int", "B", "bool"}} {
		for dims := range api.MaxDims + 1 {
			checkType(t, recs, api.Of{Name: "int", Dims: dims}, api.Type{Base: api.TInt, Dims: dims})
			checkType(t, recs, api.Of{Name: "bool", Dims: dims}, api.Type{Base: api.TBool, Dims: dims})
		}
	}
}

// P7.1: any other name denotes the record of this name, by its index, with 0 to MaxDims dimensions.
func TestRecordTypes(t *testing.T) {
	for _, recs := range [][]string{{"A"}, {"A", "B"}, {"B", "A", "C"}, {"int", "A", "bool", "B"}, strings.Split("a b c d e f g h i j k l", " ")} {
		for i, name := range recs {
			for dims := range api.MaxDims + 1 {
				if name != "int" && name != "bool" {
					checkType(t, recs, api.Of{Name: name, Dims: dims}, api.Type{Base: api.TRec, Rec: i, Dims: dims})
				}
			}
		}
	}
}

// P7.1: of names that stand twice the first one counts.
func TestRepeatedNames(t *testing.T) {
	for _, x := range []struct {
		recs string
		name string
		want int
	}{
		{"A,B,A", "A", 0}, {"A,B,A", "B", 1}, {"B,A,A,A", "A", 1}, {"B,A,A,A", "B", 0}, {"A,A", "A", 0}, {"C,B,A,C,B,A", "A", 2}, {"C,B,A,C,B,A", "B", 1}, {",,", "", 0}, {"A,,", "", 1},
		{"int,A,int,A", "A", 1},
	} {
		recs := strings.Split(x.recs, ",")
		for dims := range api.MaxDims + 1 {
			checkType(t, recs, api.Of{Name: x.name, Dims: dims}, api.Type{Base: api.TRec, Rec: x.want, Dims: dims})
		}
	}
}

// P7.1: a name is equal to another one only as a whole, byte by byte; and a record may have any name, also none.
func TestNamesAreComparedWhole(t *testing.T) {
	names := []string{
		"A", "a", "AB", "Ab", "B", " A", "A ", "A\x00", "\x00", "\xff", "\xfe", "\u00e4", "a\u0308", "Int", "INT", "in", "nt", "int ", " int", "ints", "int\x00", "[int]", "Bool", "boo", "bools", "null", "main", "R", "",
		strings.Repeat("A", 1<<8), strings.Repeat("A", 1<<8-1) + "B",
	}
	for i, name := range names {
		checkType(t, names, api.Of{Name: name}, api.Type{Base: api.TRec, Rec: i})
		checkType(t, names, api.Of{Name: name, Dims: 2}, api.Type{Base: api.TRec, Rec: i, Dims: 2})
		others := slices.Concat(names[:i], names[i+1:])
		for dims := range api.MaxDims + 1 {
			checkNoType(t, others, api.Of{Name: name, Dims: dims})
		}
	}
}

// P7.1: without records no other name denotes a type.
func TestNoRecords(t *testing.T) {
	for _, name := range []string{"A", "", "int ", "Int", "Bool", "null"} {
		for dims := -1; dims <= api.MaxDims+1; dims++ {
			checkNoType(t, nil, api.Of{Name: name, Dims: dims})
			checkNoType(t, []string{}, api.Of{Name: name, Dims: dims})
		}
	}
}

// P7.1: there is no type of fewer than 0 or more than MaxDims dimensions, whatever its name.
func TestStrangeDims(t *testing.T) {
	for _, dims := range strangeDims() {
		for _, name := range []string{"int", "bool", "A", "B", "C", ""} {
			checkNoType(t, []string{"A", "B", "int"}, api.Of{Name: name, Dims: dims})
			checkNoType(t, []string{""}, api.Of{Name: name, Dims: dims})
		}
	}
}

// P7.1: only records and arrays are references.
func TestRef(t *testing.T) {
	for _, x := range []struct {
		t    api.Type
		want bool
	}{
		{api.Type{}, false}, {api.Type{Base: api.TInt}, false}, {api.Type{Base: api.TBool}, false}, {api.Type{Base: api.TInt, Dims: 1}, true}, {api.Type{Base: api.TInt, Dims: api.MaxDims}, true},
		{api.Type{Base: api.TBool, Dims: 1}, true}, {api.Type{Base: api.TBool, Dims: 2}, true}, {api.Type{Base: api.TRec}, true}, {api.Type{Base: api.TRec, Rec: api.MaxRecs - 1}, true},
		{api.Type{Base: api.TRec, Dims: 1}, true}, {api.Type{Base: api.TRec, Rec: 3, Dims: api.MaxDims}, true},
		// Types that are none still have a Base and Dims.
		{api.Type{Base: api.TInt, Rec: 1}, false}, {api.Type{Base: api.TInt, Rec: -1}, false}, {api.Type{Rec: 5}, false}, {api.Type{Base: -1}, false}, {api.Type{Base: api.TRec + 1}, false},
		{api.Type{Base: math.MaxInt}, false}, {api.Type{Base: math.MinInt}, false}, {api.Type{Base: api.TInt, Dims: -1}, false}, {api.Type{Base: api.TBool, Dims: math.MinInt}, false}, {api.Type{Dims: -1}, false},
		{api.Type{Dims: 1}, true}, {api.Type{Base: -1, Dims: 1}, true}, {api.Type{Base: api.TInt, Dims: api.MaxDims + 1}, true}, {api.Type{Base: api.TBool, Dims: math.MaxInt}, true},
		{api.Type{Base: api.TRec, Rec: -1}, true}, {api.Type{Base: api.TRec, Rec: math.MaxInt}, true}, {api.Type{Base: api.TRec, Dims: -1}, true}, {api.Type{Base: api.TRec, Dims: math.MinInt}, true},
	} {
		if got := heads.Ref(x.t); got != x.want {
			t.Errorf("Ref(%+v) = %t", x.t, got)
		}
	}
}

// W1: as many names as may come in.
func TestManyNames(t *testing.T) {
	recs := make([]string, 1<<20)
	checkType(t, recs, api.Of{}, api.Type{Base: api.TRec})
	checkNoType(t, recs, api.Of{Name: "A"})
	recs[1<<20-1] = "A"
	checkType(t, recs, api.Of{Name: "A"}, api.Type{Base: api.TRec, Rec: 1<<20 - 1})
	checkType(t, recs, api.Of{Name: "int"}, api.Type{Base: api.TInt})
}
