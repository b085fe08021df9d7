// Package cursor goes over a list of tokens for the parsers of expressions, statements and programs.
package cursor

import (
	"strings"

	"runrig/api"
)

// Cursor is a place in a list of tokens, and the first fault that was found there.
//
// Once there is a fault, the cursor sees nothing but the end. So a parser need not ask for a fault behind each step:
// no token leads it on any more, and what it makes of the rest is given up.
type Cursor struct {
	tokens []api.Tok
	at     int
	fault  api.Fault
}

// New is a cursor at an index, which may lie outside of the list.
func New(tokens []api.Tok, at int) Cursor { return Cursor{tokens: tokens, at: at} }

// Peek is the next token; an index without a token has a KEnd at offset 0.
func (c *Cursor) Peek() api.Tok {
	if c.fault.E != api.OK || c.at < 0 || c.at >= len(c.tokens) {
		return api.Tok{Kind: api.KEnd}
	}
	return c.tokens[c.at]
}

// Next takes the next token, whatever it is.
func (c *Cursor) Next() api.Tok {
	token := c.Peek()
	c.at++
	return token
}

// Sees tells whether the next token is this keyword or operator.
func (c *Cursor) Sees(kind int, text string) bool {
	token := c.Peek()
	return token.Kind == kind && token.Text == text
}

// SeesSign tells whether the next token is this operator.
func (c *Cursor) SeesSign(text string) bool { return c.Sees(api.KSign, text) }

// Sign takes this operator; no other token is allowed here.
func (c *Cursor) Sign(text string) api.Tok {
	if !c.SeesSign(text) {
		c.Fail(api.ErrParse)
	}
	return c.Next()
}

// Name takes a name; no other token is allowed here.
func (c *Cursor) Name() string {
	if c.Peek().Kind != api.KName {
		c.Fail(api.ErrParse)
	}
	return c.Text()
}

// Text takes the next token and is its text, in memory of its own: what is parsed shares none with the tokens.
func (c *Cursor) Text() string { return strings.Clone(c.Next().Text) }

// Fail says that the next token is at fault, unless there was a fault before.
func (c *Cursor) Fail(e api.Errno) {
	if c.fault.E == api.OK {
		c.fault = api.Fault{E: e, At: c.Peek().At}
	}
}

// Read has another parser read from the next token on, and goes on behind what that has read, or keeps its fault.
func Read[T any](c *Cursor, parse func(tokens []api.Tok, at int) (T, int, api.Fault)) T {
	var none T
	if c.fault.E != api.OK {
		return none
	}
	read, end, fault := parse(c.tokens, c.at)
	if fault.E != api.OK {
		c.fault = fault
		return none
	}
	c.at = end
	return read
}

// Result is what a parser answers that has read this: it and the index of the next token, or the fault alone.
func Result[T any](c *Cursor, read T) (T, int, api.Fault) {
	if c.fault.E != api.OK {
		var none T
		return none, 0, c.fault
	}
	return read, c.at, api.Fault{}
}
