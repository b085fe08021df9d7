package cursor

import "runrig/api"

// Nested is a cursor that counts the brackets and operators that are open, at most MaxDeep of them.
type Nested struct {
	Cursor
	open int
}

// NewNested is a cursor at an index, where so many are open already.
func NewNested(tokens []api.Tok, at, open int) Nested {
	// More than MaxDeep forbid no more than MaxDeep do, and this way the count cannot overflow.
	return Nested{Cursor: New(tokens, at), open: min(max(open, 0), api.MaxDeep)}
}

// Open is how many are open.
func (n *Nested) Open() int { return n.open }

// Enter takes this bracket or operator, which is open from here on.
func (n *Nested) Enter(sign string) api.Tok {
	if n.SeesSign(sign) && n.open == api.MaxDeep {
		n.Fail(api.ErrLimit)
	}
	n.open++
	return n.Sign(sign)
}

// Leave says that what was entered last is open no more.
func (n *Nested) Leave() { n.open-- }
