package show_test

import (
	"slices"
	"strings"
	"testing"

	"runrig/api"
	"runrig/expr"
	"runrig/prog"
	"runrig/show"
)

// This file says from the tokens of a text alone how they are laid out and which parentheses among them are needed, without
// any look at levels or statements. With the promise that the text yields the program this leaves one text for a program.

// endsOperand tells whether a token can be the last one of an expression or of a type.
func endsOperand(token api.Tok) bool {
	switch token.Kind {
	case api.KName, api.KInt:
		return true
	case api.KWord:
		return slices.Contains(strings.Fields("true false int bool"), token.Text)
	}
	return token.Kind == api.KSign && strings.Contains(")]", token.Text)
}

func is(token api.Tok, texts string) bool {
	return (token.Kind == api.KSign || token.Kind == api.KWord) && slices.Contains(strings.Fields(texts), token.Text)
}

// prefix tells whether the token with this index is a unary operator.
func prefix(list []api.Tok, i int) bool {
	return is(list[i], "- !") && (i == 0 || !endsOperand(list[i-1]))
}

// groups tells whether the token with this index is a parenthesis that is not that of a call or of a function.
func groups(list []api.Tok, i int) bool {
	return is(list[i], "(") && (i == 0 || !endsOperand(list[i-1]) && !is(list[i-1], "len read"))
}

// apart tells whether a space separates the token with this index from the one ahead of it in its line.
func apart(list []api.Tok, i int) bool {
	ahead := list[i-1]
	switch {
	case is(list[i], "; : , . ) ]"), is(ahead, "( [ ."), prefix(list, i-1):
		return false
	case is(list[i], "("):
		return groups(list, i)
	case is(list[i], "["):
		return !endsOperand(ahead)
	}
	return true
}

// laidOut are tokens as one line or as lines: a line ends behind each `{` and `;`, and behind a `}` that no else follows.
func laidOut(list []api.Tok) string {
	text, indent, begins := "", 0, true
	for i, token := range list {
		if is(token, "}") {
			indent--
		}
		if begins {
			text += strings.Repeat("  ", indent)
		} else if apart(list, i) {
			text += " "
		}
		text += tokenText(token)
		begins = is(token, "{ ; }") && !(i+1 < len(list) && is(list[i+1], "else"))
		if begins {
			text += "\n"
		}
		if is(token, "{") {
			indent++
		}
	}
	return text
}

func tokenText(token api.Tok) string {
	if token.Kind == api.KInt {
		return show.Expr(number(token.N))
	}
	return token.Text
}

// closing is the index of the bracket that closes the one with this index.
func closing(list []api.Tok, i int) int {
	open := 0
	for j := i; j < len(list); j++ {
		switch {
		case is(list[j], "( ["):
			open++
		case is(list[j], ") ]"):
			if open--; open == 0 {
				return j
			}
		}
	}
	return len(list)
}

// without are all lists that result when one pair of grouping parentheses is left out.
func without(list []api.Tok) [][]api.Tok {
	var all [][]api.Tok
	for i := range list {
		if groups(list, i) {
			end := closing(list, i)
			all = append(all, slices.Concat(list[:i], list[i+1:end], list[end+1:]))
		}
	}
	return all
}

// checkExprText wants the text of an expression to be laid out as its tokens ask, with the parentheses that are needed and no
// others, to yield the expression again, and to be printed again like this (P6.1, P6.3).
func checkExprText(t *testing.T, e api.Expr) {
	t.Helper()
	text := show.Expr(e)
	list := lexed(t, text)
	again := parsedExpr(t, text)
	if !expr.Same(e, again) || show.Expr(again) != text {
		t.Errorf("%q of %+v yields %+v, whose text is %q", text, e, again, show.Expr(again))
	}
	if want := laidOut(list); text != want {
		t.Errorf("Expr(%+v) = %q; want %q", e, text, want)
	}
	for _, shorter := range without(list) {
		if other, end, fault := expr.Parse(shorter, 0, 0); fault.E == api.OK && end == len(shorter) && expr.Same(e, other) {
			t.Errorf("%q has parentheses that %q does without", text, laidOut(shorter))
		}
	}
}

// checkProgramText wants all that of the text of a program, and no else with an empty block (P6.2, P6.3).
func checkProgramText(t *testing.T, p api.Prog) {
	t.Helper()
	text := show.Print(p)
	list := lexed(t, text)
	again := parsed(t, text)
	if !prog.Same(p, again) || show.Print(again) != text {
		t.Errorf("%q of %+v yields %+v, whose text is %q", text, p, again, show.Print(again))
	}
	if want := laidOut(list); text != want {
		t.Errorf("Print(%+v) = %q; want %q", p, text, want)
	}
	for _, shorter := range without(list) {
		if other, fault := prog.Parse(laidOut(shorter)); fault.E == api.OK && prog.Same(p, other) {
			t.Errorf("%q has parentheses that %q does without", text, laidOut(shorter))
		}
	}
	for i := range list {
		if is(list[i], "else") && is(list[i+2], "}") {
			t.Errorf("%q has an empty else", text)
		}
	}
	if !slices.IsSorted(ranks(list)) {
		t.Errorf("%q has its declarations in another order", text)
	}
}

// ranks are those of the declarations of a program, as they follow one another.
func ranks(list []api.Tok) []int {
	var all []int
	for _, token := range list {
		for rank, keyword := range []string{"record", "global", "func"} {
			if is(token, keyword) {
				all = append(all, rank)
			}
		}
	}
	return all
}
