package store_test

import (
	"math"
	"sync"
	"testing"

	"runrig/api"
	"runrig/store"
)

var extremes = []int{math.MinInt, math.MinInt + 1, math.MinInt32, -1 << 32, 1 << 32, math.MaxInt32, math.MaxInt - 1, math.MaxInt}

// W1: the least and the greatest numbers as sizes, references and indexes.
func TestExtremeNumbers(t *testing.T) {
	s := allocated(t, 1)
	for _, n := range extremes {
		checkArr(t, s, n, 0, api.TrapSize)
		checkLen(t, s, n, 0, api.TrapNull)
		checkLoad(t, s, 1, n, 0, api.TrapIndex)
		checkPut(t, s, 1, n, 5, api.TrapIndex)
		for _, i := range append([]int{0, 1, -1}, extremes...) {
			checkLoad(t, s, n, i, 0, api.TrapNull)
			checkPut(t, s, n, i, 5, api.TrapNull)
		}
	}
	checkMany(t, s, 1)
	checkCells(t, s, 1, 0)
	for i, n := range extremes {
		checkRec(t, s, n, i+2)
		if n < 0 {
			checkCells(t, s, i+2)
		} else {
			checkCells(t, s, i+2, make([]int, api.MaxFields)...)
		}
	}
}

// P10.1: a cell contains any number.
func TestExtremeContents(t *testing.T) {
	s := allocated(t, len(extremes))
	for i, v := range extremes {
		checkPut(t, s, 1, i, v, 0)
	}
	checkCells(t, s, 1, extremes...)
}

// W1: a Store that New did not make is an empty one.
func TestZeroStore(t *testing.T) {
	var s store.Store
	checkMany(t, &s, 0)
	checkLen(t, &s, 1, 0, api.TrapNull)
	checkRec(t, &s, 1, 1)
	checkArr(t, &s, 2, 2, 0)
	checkPut(t, &s, 2, 1, 4, 0)
	checkCells(t, &s, 1, 0)
	checkCells(t, &s, 2, 0, 4)
}

// W2: what happens in one store is not to be seen in another.
func TestStoresAreApart(t *testing.T) {
	a, b := store.New(), store.New()
	checkRec(t, a, 2, 1)
	checkMany(t, b, 0)
	checkLen(t, b, 1, 0, api.TrapNull)
	checkArr(t, b, 2, 1, 0)
	checkPut(t, a, 1, 0, 3, 0)
	checkCells(t, b, 1, 0, 0)
	checkPut(t, b, 1, 0, 4, 0)
	checkPut(t, b, 1, 1, 5, 0)
	checkCells(t, a, 1, 3, 0)
	checkArr(t, a, 0, 2, 0)
	checkMany(t, b, 1)
	checkMany(t, store.New(), 0)
}

// W8: one of two copies goes on where the original was.
func TestCopyOfStore(t *testing.T) {
	s := allocated(t, 1, 2, 3)
	checkPut(t, s, 2, 1, 6, 0)
	c := *s
	checkMany(t, &c, 3)
	checkCells(t, &c, 2, 0, 6)
	checkRec(t, &c, 1, 4)
	checkPut(t, &c, 1, 0, 8, 0)
	checkCells(t, &c, 1, 8)
	checkCells(t, &c, 4, 0)
}

// W9: stores of several goroutines do not meet.
func TestStoresOfGoroutines(t *testing.T) {
	var group sync.WaitGroup
	for worker := range 8 {
		group.Go(func() {
			s := store.New()
			for ref := 1; ref <= 1000; ref++ {
				if s.Rec(1) != ref || s.Put(ref, 0, worker*ref) != 0 {
					t.Errorf("worker %d: no object %d", worker, ref)
				}
			}
			for ref := 1; ref <= 1000; ref++ {
				checkLoad(t, s, ref, 0, worker*ref, 0)
			}
		})
	}
	group.Wait()
}
