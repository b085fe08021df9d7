package store_test

import (
	"testing"

	"runrig/api"
	"runrig/store"
)

// The check functions make one call and hold what it returns against what is wanted.

func checkRec(t *testing.T, s *store.Store, n, want int) {
	t.Helper()
	if got := s.Rec(n); got != want {
		t.Errorf("Rec(%d) = %d; want %d", n, got, want)
	}
}

func checkArr(t *testing.T, s *store.Store, n, want, wantTrap int) {
	t.Helper()
	if got, trap := s.Arr(n); got != want || trap != wantTrap {
		t.Errorf("Arr(%d) = %d, %d; want %d, %d", n, got, trap, want, wantTrap)
	}
}

func checkLen(t *testing.T, s *store.Store, ref, want, wantTrap int) {
	t.Helper()
	if got, trap := s.Len(ref); got != want || trap != wantTrap {
		t.Errorf("Len(%d) = %d, %d; want %d, %d", ref, got, trap, want, wantTrap)
	}
}

func checkLoad(t *testing.T, s *store.Store, ref, i, want, wantTrap int) {
	t.Helper()
	if got, trap := s.Load(ref, i); got != want || trap != wantTrap {
		t.Errorf("Load(%d, %d) = %d, %d; want %d, %d", ref, i, got, trap, want, wantTrap)
	}
}

func checkPut(t *testing.T, s *store.Store, ref, i, v, wantTrap int) {
	t.Helper()
	if trap := s.Put(ref, i, v); trap != wantTrap {
		t.Errorf("Put(%d, %d, %d) = %d; want %d", ref, i, v, trap, wantTrap)
	}
}

func checkMany(t *testing.T, s *store.Store, want int) {
	t.Helper()
	if got := s.Many(); got != want {
		t.Errorf("Many() = %d; want %d", got, want)
	}
}

// checkCells wants the object to have exactly these cells.
func checkCells(t *testing.T, s *store.Store, ref int, want ...int) {
	t.Helper()
	checkLen(t, s, ref, len(want), 0)
	for i, v := range want {
		checkLoad(t, s, ref, i, v, 0)
	}
	checkLoad(t, s, ref, -1, 0, api.TrapIndex)
	checkLoad(t, s, ref, len(want), 0, api.TrapIndex)
}

// allocated is a store with one array for each number, which has that many cells.
func allocated(t *testing.T, sizes ...int) *store.Store {
	t.Helper()
	s := store.New()
	for i, n := range sizes {
		checkArr(t, s, n, i+1, 0)
	}
	return s
}

// P10.1: the examples of the chapter.
func TestExamples(t *testing.T) {
	s := store.New()
	checkRec(t, s, 2, 1)
	checkLoad(t, s, 1, 1, 0, 0)
	checkLoad(t, s, 0, 5, 0, api.TrapNull)
}

// P10.1: a store begins with no object.
func TestNewIsEmpty(t *testing.T) {
	s := store.New()
	if s == nil {
		t.Fatal("New() = nil")
	}
	checkMany(t, s, 0)
	checkLen(t, s, 1, 0, api.TrapNull)
	checkLoad(t, s, 1, 0, 0, api.TrapNull)
	checkPut(t, s, 1, 0, 5, api.TrapNull)
	checkMany(t, s, 0)
}

// P10.1: records and arrays are numbered together, from 1 in the order of their allocation, whatever happens between.
func TestNumbering(t *testing.T) {
	s := store.New()
	checkRec(t, s, 1, 1)
	checkArr(t, s, 3, 2, 0)
	checkPut(t, s, 2, 2, 9, 0)
	checkArr(t, s, 0, 3, 0)
	checkLen(t, s, 3, 0, 0)
	checkRec(t, s, 0, 4)
	checkLoad(t, s, 9, 9, 0, api.TrapNull)
	checkRec(t, s, -1, 5)
	checkMany(t, s, 5)
	checkRec(t, s, 99, 6)
	checkMany(t, s, 6)
}

// P10.1: a record of no cell, of MaxFields and of one more, of a negative number.
func TestSizeOfRec(t *testing.T) {
	for _, x := range []struct{ n, cells int }{
		{0, 0}, {1, 1}, {2, 2}, {api.MaxFields - 1, api.MaxFields - 1}, {api.MaxFields, api.MaxFields},
		{api.MaxFields + 1, api.MaxFields}, {api.MaxItems, api.MaxFields}, {api.MaxItems + 1, api.MaxFields}, {-1, 0}, {-api.MaxFields, 0},
	} {
		s := store.New()
		checkRec(t, s, x.n, 1)
		checkMany(t, s, 1)
		checkCells(t, s, 1, make([]int, x.cells)...)
	}
}

// P10.1: an array of no cell, of MaxItems, of one more and of a negative number.
func TestSizeOfArr(t *testing.T) {
	for _, n := range []int{0, 1, api.MaxFields, api.MaxFields + 1, api.MaxItems - 1, api.MaxItems} {
		s := store.New()
		checkArr(t, s, n, 1, 0)
		checkMany(t, s, 1)
		checkCells(t, s, 1, make([]int, n)...)
	}
	for _, n := range []int{-1, -api.MaxItems, api.MaxItems + 1, 2 * api.MaxItems} {
		s := store.New()
		checkArr(t, s, n, 0, api.TrapSize)
		checkMany(t, s, 0)
		checkLen(t, s, 1, 0, api.TrapNull)
	}
}

// P10.1, W3: a refused array allocates nothing and takes no number.
func TestRefusedArr(t *testing.T) {
	for _, n := range []int{-1, api.MaxItems + 1} {
		s := allocated(t, 2)
		checkPut(t, s, 1, 1, 7, 0)
		checkArr(t, s, n, 0, api.TrapSize)
		checkMany(t, s, 1)
		checkLen(t, s, 2, 0, api.TrapNull)
		checkLoad(t, s, 2, 0, 0, api.TrapNull)
		checkPut(t, s, 2, 0, 1, api.TrapNull)
		checkArr(t, s, n, 0, api.TrapSize)
		checkRec(t, s, 1, 2)
		checkArr(t, s, n, 0, api.TrapSize)
		checkArr(t, s, 3, 3, 0)
		checkMany(t, s, 3)
		checkCells(t, s, 1, 0, 7)
		checkCells(t, s, 2, 0)
		checkCells(t, s, 3, 0, 0, 0)
	}
}

// P10.1: the reference 0, a negative one, the last one allocated and one more.
func TestReferences(t *testing.T) {
	for many := 1; many <= 5; many++ {
		s := store.New()
		for range many {
			s.Rec(1)
		}
		for _, ref := range []int{0, -1, -2, -many, many + 1, many + 2} {
			checkLen(t, s, ref, 0, api.TrapNull)
			checkLoad(t, s, ref, 0, 0, api.TrapNull)
			checkPut(t, s, ref, 0, 6, api.TrapNull)
		}
		for ref := 1; ref <= many; ref++ {
			checkCells(t, s, ref, 0)
			checkPut(t, s, ref, 0, ref, 0)
			checkCells(t, s, ref, ref)
		}
		checkMany(t, s, many)
	}
}

// P10.1: the cells -1, 0, the last one and one more, also of an object without any.
func TestCells(t *testing.T) {
	for _, n := range []int{0, 1, 2, api.MaxFields, api.MaxItems} {
		s := allocated(t, 3, n, 3)
		for _, i := range []int{-1, -2, -n - 1, n, n + 1, api.MaxItems + 1} {
			checkLoad(t, s, 2, i, 0, api.TrapIndex)
			checkPut(t, s, 2, i, 6, api.TrapIndex)
		}
		checkCells(t, s, 2, make([]int, n)...)
		if n > 0 {
			checkPut(t, s, 2, 0, 4, 0)
			checkLoad(t, s, 2, 0, 4, 0)
			checkPut(t, s, 2, n-1, 5, 0)
			checkLoad(t, s, 2, n-1, 5, 0)
		}
		checkCells(t, s, 1, 0, 0, 0)
		checkCells(t, s, 3, 0, 0, 0)
	}
}

// P10.1: each object has the bound of its own cells, not the one of its kind or of another object.
func TestBoundOfEachObject(t *testing.T) {
	s := store.New()
	for i, n := range []int{5, 0, 2} {
		checkRec(t, s, n, 2*i+1)
		checkArr(t, s, 10+n, 2*i+2, 0)
	}
	for i, n := range []int{5, 15, 0, 10, 2, 12} {
		checkCells(t, s, i+1, make([]int, n)...)
		checkPut(t, s, i+1, n, 1, api.TrapIndex)
		if n > 0 {
			checkPut(t, s, i+1, n-1, 1, 0)
		}
	}
}

// P10.1: null or an unknown reference together with an invalid index is TrapNull, as there is no object to have the cell.
func TestNullAheadOfIndex(t *testing.T) {
	s := allocated(t, 1, 2)
	for _, ref := range []int{0, -1, 3, 100} {
		for _, i := range []int{-1, 2, 5, 100} {
			checkLoad(t, s, ref, i, 0, api.TrapNull)
			checkPut(t, s, ref, i, 6, api.TrapNull)
		}
	}
	checkCells(t, s, 1, 0)
	checkCells(t, s, 2, 0, 0)
}

// P10.1: the last Put into a cell counts, and only for this cell.
func TestPutSetsOneCell(t *testing.T) {
	s := allocated(t, 3)
	checkPut(t, s, 1, 1, 7, 0)
	checkCells(t, s, 1, 0, 7, 0)
	checkPut(t, s, 1, 1, -8, 0)
	checkCells(t, s, 1, 0, -8, 0)
	checkPut(t, s, 1, 2, 9, 0)
	checkPut(t, s, 1, 0, 1, 0)
	checkCells(t, s, 1, 1, -8, 9)
	checkPut(t, s, 1, 1, 0, 0)
	checkCells(t, s, 1, 1, 0, 9)
}

// W3: a refused Put sets nothing, in no object.
func TestRefusedPut(t *testing.T) {
	s := allocated(t, 2, 2)
	for ref := 1; ref <= 2; ref++ {
		for i := range 2 {
			checkPut(t, s, ref, i, 10*ref+i, 0)
		}
	}
	checkPut(t, s, 1, 2, 5, api.TrapIndex)
	checkPut(t, s, 2, -1, 5, api.TrapIndex)
	checkPut(t, s, 2, 2, 5, api.TrapIndex)
	checkPut(t, s, 0, 0, 5, api.TrapNull)
	checkPut(t, s, 3, 0, 5, api.TrapNull)
	checkPut(t, s, -1, 0, 5, api.TrapNull)
	checkCells(t, s, 1, 10, 11)
	checkCells(t, s, 2, 20, 21)
	checkArr(t, s, 2, 3, 0)
	checkCells(t, s, 3, 0, 0)
}

// P10.2: each cell of each object keeps its own content, however many are allocated and set after it.
func TestNoCellInCommon(t *testing.T) {
	const objects = 300
	s := store.New()
	size := func(ref int) int { return ref % (api.MaxFields + 1) }
	content := func(ref, i int) int { return 100*ref + i + 1 }
	for ref := 1; ref <= objects; ref++ {
		if ref%2 == 0 {
			checkRec(t, s, size(ref), ref)
		} else {
			checkArr(t, s, size(ref), ref, 0)
		}
		checkCells(t, s, ref, make([]int, size(ref))...)
		for i := range size(ref) {
			checkPut(t, s, ref, i, content(ref, i), 0)
		}
	}
	checkMany(t, s, objects)
	for ref := objects; ref > 0; ref-- {
		for i := range size(ref) {
			checkLoad(t, s, ref, i, content(ref, i), 0)
		}
	}
}

// P10.2: every object is still there, with its own content, after a million allocations.
func TestNothingIsFreed(t *testing.T) {
	const objects = 1 << 20
	s := store.New()
	for ref := 1; ref <= objects; ref++ {
		if got := s.Rec(1); got != ref || s.Put(ref, 0, -ref) != 0 {
			t.Fatalf("Rec(1) = %d; want %d, and a cell that can be set", got, ref)
		}
	}
	checkMany(t, s, objects)
	for ref := 1; ref <= objects; ref++ {
		if v, trap := s.Load(ref, 0); v != -ref || trap != 0 {
			t.Fatalf("Load(%d, 0) = %d, %d; want %d, 0", ref, v, trap, -ref)
		}
	}
	checkLen(t, s, objects, 1, 0)
	checkLen(t, s, objects+1, 0, api.TrapNull)
}

// P10.1, W8: a nil Store has no object and gets none; each method says so, whatever it is given.
func TestNilStore(t *testing.T) {
	var s *store.Store
	for range 2 {
		for _, n := range []int{0, 1, -1, api.MaxFields, api.MaxFields + 1, api.MaxItems, api.MaxItems + 1} {
			checkRec(t, s, n, 0)
			checkArr(t, s, n, 0, api.TrapNull)
			checkMany(t, s, 0)
			checkLen(t, s, n, 0, api.TrapNull)
			for _, i := range []int{0, 1, -1} {
				checkLoad(t, s, n, i, 0, api.TrapNull)
				checkPut(t, s, n, i, 5, api.TrapNull)
			}
		}
	}
}
