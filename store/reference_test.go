package store_test

import (
	"math/rand"
	"slices"
	"testing"

	"runrig/api"
	"runrig/store"
)

// This file holds a Store against a history: it keeps nothing but the calls so far, and finds every answer in them.

const (
	callRec = iota
	callArr
	callLen
	callLoad
	callPut
	callMany
	kindsOfCalls
)

// call is one call; a, b and c are its arguments, as far as it has any.
type call struct{ kind, a, b, c int }

// answer is what a call returns; what it does not return is 0.
type answer struct{ value, trap int }

func (c call) on(s *store.Store) answer {
	switch c.kind {
	case callRec:
		return answer{value: s.Rec(c.a)}
	case callArr:
		ref, trap := s.Arr(c.a)
		return answer{ref, trap}
	case callLen:
		n, trap := s.Len(c.a)
		return answer{n, trap}
	case callLoad:
		v, trap := s.Load(c.a, c.b)
		return answer{v, trap}
	case callPut:
		return answer{trap: s.Put(c.a, c.b, c.c)}
	}
	return answer{value: s.Many()}
}

// history is the calls so far.
type history []call

// sizes are the numbers of cells of the objects, in the order of their allocation.
func (h history) sizes() []int {
	var sizes []int
	for _, c := range h {
		switch {
		case c.kind == callRec && c.a <= 0:
			sizes = append(sizes, 0)
		case c.kind == callRec && c.a >= 8:
			sizes = append(sizes, 8)
		case c.kind == callRec || c.kind == callArr && c.a >= 0 && c.a <= 50:
			sizes = append(sizes, c.a)
		}
	}
	return sizes
}

// content is what was last put into a cell that exists, after its object was there.
func (h history) content(ref, i int) int {
	for last := len(h) - 1; last >= 0; last-- {
		c := h[last]
		if c.kind == callPut && c.a == ref && c.b == i && len(h[:last].sizes()) >= ref {
			return c.c
		}
	}
	return 0
}

func (h history) answerTo(c call) answer {
	sizes := h.sizes()
	switch c.kind {
	case callRec:
		return answer{value: len(sizes) + 1}
	case callArr:
		if c.a < 0 || c.a > 50 {
			return answer{trap: api.TrapSize}
		}
		return answer{value: len(sizes) + 1}
	case callMany:
		return answer{value: len(sizes)}
	}
	if c.a <= 0 || c.a > len(sizes) {
		return answer{trap: api.TrapNull}
	}
	if c.kind == callLen {
		return answer{value: sizes[c.a-1]}
	}
	if c.b < 0 || c.b >= sizes[c.a-1] {
		return answer{trap: api.TrapIndex}
	}
	if c.kind == callLoad {
		return answer{value: h.content(c.a, c.b)}
	}
	return answer{}
}

// checkAll makes the calls one after the other on a new store, and wants the answers that their history gives.
func checkAll(t *testing.T, calls []call) {
	t.Helper()
	s := store.New()
	for i, c := range calls {
		if got, want := c.on(s), history(calls[:i]).answerTo(c); got != want {
			t.Fatalf("after %v: %v = %v; want %v", calls[:i], c, got, want)
		}
	}
}

// someCalls has each method with some of its boundary cases.
func someCalls() []call {
	calls := []call{{callRec, 0, 0, 0}, {callRec, -1, 0, 0}, {callRec, 2, 0, 0}, {callRec, 9, 0, 0}, {callArr, -1, 0, 0}, {callArr, 51, 0, 0}, {callArr, 0, 0, 0}, {callArr, 1, 0, 0}, {kind: callMany}}
	for _, ref := range []int{-1, 0, 1, 2, 3} {
		calls = append(calls, call{callLen, ref, 0, 0})
		for _, i := range []int{-1, 0, 1} {
			calls = append(calls, call{callLoad, ref, i, 0}, call{callPut, ref, i, 5}, call{callPut, ref, i, -6})
		}
	}
	return calls
}

// P10.1, P10.2: each method after each other, with all that it may be given: every sequence of up to three calls, and what the
// store holds then.
func TestEachMethodAfterEachOther(t *testing.T) {
	calls := someCalls()
	var view []call
	for _, c := range calls {
		if c.kind == callLen || c.kind == callLoad || c.kind == callMany {
			view = append(view, c)
		}
	}
	for _, first := range calls {
		for _, second := range calls {
			for _, third := range calls {
				checkAll(t, append([]call{first, second, third}, view...))
			}
		}
	}
}

func randomCall(r *rand.Rand, many int) call {
	c := call{kind: r.Intn(kindsOfCalls)}
	switch c.kind {
	case callRec, callArr:
		c.a = []int{-1, 0, 1, 2, 3, 7, 8, 9, 49, 50, 51}[r.Intn(11)]
	case callLen, callLoad, callPut:
		c.a = r.Intn(many+3) - 1
	}
	if c.kind == callLoad || c.kind == callPut {
		c.b = []int{-1, 0, 0, 1, 1, 2, 7, 8, 49, 50}[r.Intn(10)]
	}
	if c.kind == callPut {
		c.c = r.Intn(200) - 100
	}
	return c
}

// P10.1, P10.2: long sequences of calls.
func TestRandomSequences(t *testing.T) {
	r := rand.New(rand.NewSource(10))
	for range 300 {
		var calls []call
		for range 120 {
			calls = append(calls, randomCall(r, len(history(calls).sizes())))
		}
		checkAll(t, calls)
	}
}

// W7: answers that were given do not change the ones that come after: a store without the asking calls holds the same.
func TestAskingLeavesNoTrace(t *testing.T) {
	r := rand.New(rand.NewSource(11))
	for range 300 {
		var calls []call
		for range 60 {
			calls = append(calls, randomCall(r, len(history(calls).sizes())))
		}
		asks := func(c call) bool { return c.kind == callLen || c.kind == callLoad || c.kind == callMany }
		all, changing := store.New(), store.New()
		for _, c := range calls {
			c.on(all)
		}
		for _, c := range slices.DeleteFunc(slices.Clone(calls), asks) {
			c.on(changing)
		}
		for ref := range all.Many() + 2 {
			for i := range 52 {
				if got, want := (call{callLoad, ref, i, 0}).on(all), (call{callLoad, ref, i, 0}).on(changing); got != want {
					t.Fatalf("after %v: Load(%d, %d) = %v; without the asking %v", calls, ref, i, got, want)
				}
			}
		}
	}
}
