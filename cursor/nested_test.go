package cursor_test

import (
	"math"
	"testing"

	"runrig/api"
	"runrig/cursor"
)

// opening are n opening brackets, at the places 0 to n - 1.
func opening(n int) []api.Tok {
	list := make([]api.Tok, n)
	for i := range list {
		list[i] = api.Tok{Kind: api.KSign, Text: "(", At: i}
	}
	return list
}

// MaxDeep may be open, with those that are open at the beginning; one more is refused where it stands.
func TestOneTooMany(t *testing.T) {
	for open, room := range map[int]int{
		math.MinInt: api.MaxDeep, -1: api.MaxDeep, 0: api.MaxDeep, 1: api.MaxDeep - 1, api.MaxDeep - 1: 1,
		api.MaxDeep: 0, api.MaxDeep + 1: 0, math.MaxInt: 0,
	} {
		n := cursor.NewNested(opening(api.MaxDeep+1), 0, open)
		for i := range room {
			if n.Open() != api.MaxDeep-room+i {
				t.Errorf("%d are open behind %d and %d", n.Open(), open, i)
			}
			if got := n.Enter("("); got.At != i {
				t.Errorf("entered %v, not number %d", got, i)
			}
		}
		checkResult(t, &n.Cursor, room, api.Fault{})
		n.Enter("(")
		checkResult(t, &n.Cursor, 0, api.Fault{E: api.ErrLimit, At: room})
	}
}

// What is left makes room for something else.
func TestLeft(t *testing.T) {
	n := cursor.NewNested(opening(3), 0, api.MaxDeep-1)
	n.Enter("(")
	n.Leave()
	n.Enter("(")
	checkResult(t, &n.Cursor, 2, api.Fault{})
	n.Enter("(")
	checkResult(t, &n.Cursor, 0, api.Fault{E: api.ErrLimit, At: 2})
}

// Another token than the one that is to be entered is not allowed, however much is open.
func TestNotEntered(t *testing.T) {
	for _, open := range []int{0, api.MaxDeep} {
		n := cursor.NewNested(opening(2), 1, open)
		n.Enter("[")
		checkResult(t, &n.Cursor, 0, api.Fault{E: api.ErrParse, At: 1})
	}
}
