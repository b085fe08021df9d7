package stmt_test

import (
	"math/rand"
	"slices"
	"strings"
	"testing"

	"runrig/api"
	"runrig/expr"
	"runrig/lex"
)

// This file holds Parse and Block against a machine that reads the same language in another way: it goes through lines of a
// plan, one for each kind of statement, and keeps a stack of the blocks that are open instead of calling itself.

// plan is what follows the first token of each kind of statement: N a name, T a type, E an expression, B the statements of a
// block, everything else itself; from the bar on only if that is there.
func plan(word string) (kind int, steps string, ok bool) {
	switch word {
	case "var":
		return api.SVar, "N : T ;", true
	case "let":
		return api.SLet, "N : T = E ;", true
	case "if":
		return api.SIf, "E { B } | else { B }", true
	case "while":
		return api.SWhile, "E { B }", true
	case "print":
		return api.SPrint, "E ;", true
	}
	return 0, "", false
}

// pending is a statement, or at the bottom of the stack a block alone, of which some steps are not yet done.
type pending struct {
	made  api.Stmt
	block []api.Stmt // the statements of the block that was entered last
	steps []string
}

type machine struct {
	tokens   []api.Tok
	at, open int
	stack    []*pending
	fault    api.Fault
}

func (m *machine) token() api.Tok {
	if m.at < 0 || m.at >= len(m.tokens) {
		return api.Tok{}
	}
	return m.tokens[m.at]
}

func (m *machine) stop(e api.Errno) bool {
	m.fault = api.Fault{E: e, At: m.token().At}
	return false
}

func (m *machine) is(text string) bool {
	kind := api.KSign
	if text == "else" || text == "return" {
		kind = api.KWord
	}
	return m.token().Kind == kind && m.token().Text == text
}

// take takes a sign or a keyword, or stops.
func (m *machine) take(text string) bool {
	if !m.is(text) {
		return m.stop(api.ErrParse)
	}
	m.at++
	return true
}

// run goes on until all steps are done; false if there is a fault.
func (m *machine) run() bool {
	for {
		p := m.stack[len(m.stack)-1]
		if len(p.steps) == 0 {
			if len(m.stack) == 1 {
				return true
			}
			m.stack = m.stack[:len(m.stack)-1]
			upper := m.stack[len(m.stack)-1]
			upper.block = append(upper.block, p.made)
			continue
		}
		if p.steps[0] == "B" && !m.is("}") {
			if !m.begin() {
				return false
			}
			continue
		}
		step := p.steps[0]
		p.steps = p.steps[1:]
		if !m.do(p, step) {
			return false
		}
	}
}

// do does one step of a plan.
func (m *machine) do(p *pending, step string) bool {
	switch step {
	case "N":
		if m.token().Kind != api.KName {
			return m.stop(api.ErrParse)
		}
		p.made.Name = m.token().Text
		m.at++
		return true
	case "T":
		of, end, fault := expr.Of(m.tokens, m.at)
		p.made.Of, m.at, m.fault = of, end, fault
		return fault.E == api.OK
	case "E":
		e, end, fault := expr.Parse(m.tokens, m.at, m.open)
		p.made.Es, m.at, m.fault = append(p.made.Es, e), end, fault
		return fault.E == api.OK
	case "B":
		if p.made.Body == nil {
			p.made.Body = p.block
		} else {
			p.made.Else = p.block
		}
		return true
	case "|":
		if !m.is(p.steps[0]) {
			p.steps = nil
		}
		return true
	case "{":
		p.block = []api.Stmt{}
		if m.is("{") && m.open >= api.MaxDeep {
			return m.stop(api.ErrLimit)
		}
		m.open++
	case "}":
		m.open--
	}
	return m.take(step)
}

// begin puts the statement on the stack that begins with the token.
func (m *machine) begin() bool {
	token := m.token()
	p := &pending{made: api.Stmt{At: token.At}}
	m.stack = append(m.stack, p)
	if token.Kind == api.KWord {
		if kind, steps, ok := plan(token.Text); ok {
			p.made.Kind, p.steps = kind, strings.Fields(steps)
			m.at++
			return true
		}
	}
	if m.is("return") {
		m.at++
		p.made.Kind, p.steps = api.SRet, []string{"E", ";"}
		if m.is(";") {
			p.steps = p.steps[1:]
		}
		return true
	}
	return m.do(p, "E") && m.beginWithExpression(p)
}

func (m *machine) beginWithExpression(p *pending) bool {
	kind := p.made.Es[0].Kind
	switch {
	case m.is(";") && kind == api.ECall:
		p.made.Kind, p.steps = api.SDo, []string{";"}
	case m.is("=") && kind == api.EVar:
		p.made.Kind, p.made.Name, p.made.Es = api.SSet, p.made.Es[0].Name, nil
		p.steps = []string{"=", "E", ";"}
	case m.is("=") && (kind == api.EField || kind == api.EItem):
		p.made.Kind, p.steps = api.SPut, []string{"=", "E", ";"}
	default:
		return m.stop(api.ErrParse)
	}
	return true
}

// checkMachine holds both functions against the machine.
func checkMachine(t *testing.T, list []api.Tok, at, open int) {
	t.Helper()
	m := machine{tokens: list, at: at, open: max(open, 0)}
	if m.begin() && m.run() {
		checkParsed(t, list, at, open, m.stack[0].made, m.at)
	} else {
		checkRefused(t, list, at, open, m.fault)
	}
	m = machine{tokens: list, at: at, open: max(open, 0), stack: []*pending{{steps: []string{"{", "B", "}"}}}}
	if m.run() {
		checkBlock(t, list, at, open, m.stack[0].made.Body, m.at)
	} else {
		checkNoBlock(t, list, at, open, m.fault)
	}
}

// vocabulary is a token of each sort that the grammar can tell apart.
func vocabulary() []api.Tok {
	var list []api.Tok
	for _, text := range []string{"{", "}", ";", ":", "=", "(", ")", "[", "]", ".", "-"} {
		list = append(list, api.Tok{Kind: api.KSign, Text: text})
	}
	for _, text := range []string{"var", "let", "if", "else", "while", "return", "print", "int", "read", "func"} {
		list = append(list, api.Tok{Kind: api.KWord, Text: text})
	}
	return append(list, api.Tok{Kind: api.KName, Text: "a"}, api.Tok{Kind: api.KInt, N: 1}, api.Tok{Kind: api.KEnd})
}

// placed are the tokens with places that grow from token to token.
func placed(list []api.Tok) []api.Tok {
	for i := range list {
		list[i].At = 10 + 3*i
	}
	return list
}

// P4.1: every list of up to three tokens, also behind the beginning of a statement and of a block.
func TestAllShortLists(t *testing.T) {
	words := vocabulary()
	var lists [][]api.Tok
	for _, ahead := range []string{"", "{", "if a {", "while a { }", "if a { } else", "let a : int =", "f (", "a [ 1 ]", "{ a ="} {
		begun := lexed(t, ahead)
		lists = append(lists, begun[:len(begun)-1])
	}
	for range 3 {
		var longer [][]api.Tok
		for _, list := range lists {
			for _, token := range words {
				longer = append(longer, placed(append(slices.Clone(list), token)))
			}
		}
		for _, list := range longer {
			for _, open := range []int{0, api.MaxDeep - 1, api.MaxDeep} {
				checkMachine(t, list, 0, open)
			}
		}
		lists = longer
	}
}

// everyStatement is a text with every kind of statement.
const everyStatement = `if a == b { var x : [[int]]; let y : R = new R; x = new [[int]](read() + 1); } else { y.f = x[0][1]; y.g[len(x)] = -1; }
	while !(a < b) && f(x, y.f) { f(); g(a, -b)
	; if a { return; } print a * 2; if b { } else { while a { } return a || b; } }`

// P4.1: at each place of a text, each token instead of the one that stands there, ahead of it, and that one left out.
func TestEachTokenAtEachPlace(t *testing.T) {
	list := lexed(t, "{ "+everyStatement+" }")
	for i := range list {
		checkMachine(t, list, i, 0)
		checkMachine(t, list[:i], 0, 0)
		checkMachine(t, placed(slices.Delete(slices.Clone(list), i, i+1)), 0, 0)
		for _, token := range vocabulary() {
			changed := slices.Clone(list)
			changed[i] = token
			checkMachine(t, placed(changed), 0, 0)
			checkMachine(t, placed(slices.Insert(slices.Clone(list), i, token)), 0, 0)
		}
	}
}

// writer makes texts by the grammar.
type writer struct{ source *rand.Rand }

func (w writer) any(list ...string) string { return list[w.source.Intn(len(list))] }

func (w writer) expression() string {
	return w.any("a", "1", "f(a)", "a.b", "a[1]", "-a", "(a)", "(a.b)", "a+b", "read()", "null [R]", "new R", "!f(a[(1)])", "((f()))", "true")
}

func (w writer) block(size int) string {
	s := "{ "
	for range w.source.Intn(4) {
		s += w.statement(size-1) + " "
	}
	return s + "}"
}

func (w writer) statement(size int) string {
	kind := w.source.Intn(9)
	if size <= 0 {
		kind = w.source.Intn(6)
	}
	switch kind {
	case 0:
		return "var x : " + w.any("int", "bool", "R", "[R]", "[[[int]]]") + " ;"
	case 1:
		return "let x : [int] = " + w.expression() + " ;"
	case 2:
		return w.any("return", "return "+w.expression(), "print "+w.expression()) + ";"
	case 3:
		return w.any("f()", "f(a, b[1])", "(f(1))", "((f(-a)))") + ";"
	case 4, 5:
		return w.any("a", "a.b", "a[1]", "(a)", "(a.b)", "f().b", "f(1)[(2)]", "a.b[c.d].e") + " = " + w.expression() + ";"
	case 6:
		return "while " + w.expression() + " " + w.block(size)
	case 7:
		return "if " + w.expression() + " " + w.block(size)
	}
	return "if " + w.expression() + " " + w.block(size) + " else " + w.block(size)
}

// spoiled is a list with a token replaced, left out or put in.
func spoiled(source *rand.Rand, list []api.Tok) []api.Tok {
	words := vocabulary()
	i := source.Intn(len(list))
	token := words[source.Intn(len(words))]
	switch source.Intn(3) {
	case 0:
		return slices.Replace(slices.Clone(list), i, i+1, token)
	case 1:
		return slices.Delete(slices.Clone(list), i, i+1)
	}
	return slices.Insert(slices.Clone(list), i, token)
}

// P4.1: long texts by the grammar and spoiled ones, the same ones in every run, from several places and depths on.
func TestLongTexts(t *testing.T) {
	w := writer{rand.New(rand.NewSource(4))}
	for i := range 4000 {
		text := w.any(w.block(i%12), w.statement(i%12))
		list, fault := lex.Tokens(text)
		if fault.E != api.OK {
			list = lexed(t, "{ }")
		}
		checkMachine(t, list, 0, 0)
		checkMachine(t, list, 0, api.MaxDeep-1-i%8)
		checkMachine(t, list, w.source.Intn(len(list)), i%api.MaxDeep)
		list = placed(spoiled(w.source, list))
		checkMachine(t, list, 0, 0)
		checkMachine(t, placed(spoiled(w.source, list)), 0, api.MaxDeep-1-i%8)
	}
}
