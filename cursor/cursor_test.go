package cursor_test

import (
	"math"
	"slices"
	"testing"
	"unsafe"

	"runrig/api"
	"runrig/cursor"
)

func tokens() []api.Tok {
	return []api.Tok{
		{Kind: api.KName, Text: "a", At: 3},
		{Kind: api.KSign, Text: "+", At: 5},
		{Kind: api.KWord, Text: "len", At: 7},
		{Kind: api.KEnd, At: 10},
	}
}

func checkResult(t *testing.T, c *cursor.Cursor, at int, fault api.Fault) {
	t.Helper()
	want := "read"
	if fault.E != api.OK {
		want = ""
	}
	if got, gotAt, gotFault := cursor.Result(c, "read"); got != want || gotAt != at || gotFault != fault {
		t.Errorf("Result() = %q, %d, %v; want %q, %d, %v", got, gotAt, gotFault, want, at, fault)
	}
}

// Tokens are taken one after another.
func TestTokensInTheirOrder(t *testing.T) {
	c := cursor.New(tokens(), 0)
	if c.Name() != "a" || !c.SeesSign("+") || c.Sign("+").At != 5 || c.SeesSign("len") || !c.Sees(api.KWord, "len") {
		t.Error("not the tokens of the list")
	}
	checkResult(t, &c, 2, api.Fault{})
	if c.Text() != "len" || c.Peek() != (api.Tok{Kind: api.KEnd, At: 10}) || c.Next() != (api.Tok{Kind: api.KEnd, At: 10}) {
		t.Error("not the last tokens of the list")
	}
	checkResult(t, &c, 4, api.Fault{})
}

// An index without a token has a KEnd at offset 0.
func TestIndexWithoutToken(t *testing.T) {
	for _, at := range []int{math.MinInt, -1, 4, 5, math.MaxInt} {
		c := cursor.New(tokens(), at)
		if got := c.Peek(); got != (api.Tok{}) {
			t.Errorf("Peek() at %d = %v", at, got)
		}
		checkResult(t, &c, at, api.Fault{})
		c.Sign("+")
		checkResult(t, &c, 0, api.Fault{E: api.ErrParse})
	}
	empty := cursor.New(nil, 0)
	empty.Name()
	checkResult(t, &empty, 0, api.Fault{E: api.ErrParse})
}

// The first fault stays, and nothing but the end is seen behind it.
func TestFirstFaultStays(t *testing.T) {
	c := cursor.New(tokens(), 1)
	c.Name()
	c.Fail(api.ErrLimit)
	c.Sign("+")
	if got := c.Peek(); got != (api.Tok{}) || c.SeesSign("+") {
		t.Errorf("Peek() = %v", got)
	}
	checkResult(t, &c, 0, api.Fault{E: api.ErrParse, At: 5})
}

// A token of the right text is still the wrong one if its kind is another.
func TestKindsMatter(t *testing.T) {
	for _, kind := range []int{api.KEnd, api.KName, api.KInt, api.KWord, -1, 5} {
		c := cursor.New([]api.Tok{{Kind: kind, Text: "(", At: 8}}, 0)
		c.Sign("(")
		checkResult(t, &c, 0, api.Fault{E: api.ErrParse, At: 8})
	}
	for _, kind := range []int{api.KEnd, api.KInt, api.KWord, api.KSign, -1, 5} {
		c := cursor.New([]api.Tok{{Kind: kind, Text: "a", At: 8}}, 0)
		c.Name()
		checkResult(t, &c, 0, api.Fault{E: api.ErrParse, At: 8})
	}
}

// A text lies in memory of its own.
func TestTextsAreNew(t *testing.T) {
	list := tokens()
	c := cursor.New(list, 0)
	if got := c.Text(); unsafe.StringData(got) == unsafe.StringData(list[0].Text) {
		t.Error("the text is the token's")
	}
}

// Another parser reads from the next token on, and what follows is behind what it has read.
func TestReadOn(t *testing.T) {
	list := tokens()
	c := cursor.New(list, 1)
	got := cursor.Read(&c, func(tokens []api.Tok, at int) (string, int, api.Fault) {
		if !slices.Equal(tokens, list) {
			t.Errorf("read on in %v", tokens)
		}
		return tokens[at].Text, at + 2, api.Fault{}
	})
	if got != "+" || c.Peek().At != 10 {
		t.Errorf("%q was read, and %v is next", got, c.Peek())
	}
	checkResult(t, &c, 3, api.Fault{})
}

// The fault of another parser stays, and nothing of what it has read; behind a fault none is asked.
func TestReadOnFault(t *testing.T) {
	c := cursor.New(tokens(), 1)
	want := api.Fault{E: api.ErrLimit, At: 7}
	asked := 0
	for range 2 {
		got := cursor.Read(&c, func([]api.Tok, int) (string, int, api.Fault) {
			asked++
			return "read", 3, want
		})
		if got != "" || asked != 1 || c.Peek() != (api.Tok{}) {
			t.Errorf("%q was read by call %d, and %v is next", got, asked, c.Peek())
		}
		c.Fail(api.ErrParse)
		checkResult(t, &c, 0, want)
	}
}
