package expr_test

import (
	"math/rand"
	"slices"
	"testing"

	"runrig/api"
)

// This file holds Parse against an automaton that reads the same language in another way: instead of one function calling
// another it keeps a stack of what waits, and reduces by the levels of the operators.

// waiting is an operator or a bracket whose right end has not been read. Brackets have the level 0.
type waiting struct {
	level   int
	closing string   // of a bracket
	list    bool     // of a bracket: a comma may stand in it
	kids    int      // how many operands belong to it already
	node    api.Expr // what it will be; Kind 0 for parentheses
}

// unaryLevel is that of the unary operators, above all binary ones.
const unaryLevel = 6

type automaton struct {
	tokens   []api.Tok
	at, open int
	stack    []waiting
	operands []api.Expr
	fault    api.Fault
}

func (m *automaton) token() api.Tok {
	if m.at < 0 || m.at >= len(m.tokens) {
		return api.Tok{}
	}
	return m.tokens[m.at]
}

func (m *automaton) is(kind int, text string) bool {
	return m.token().Kind == kind && m.token().Text == text
}

// stop ends the run at the token.
func (m *automaton) stop(e api.Errno) bool {
	m.fault = api.Fault{E: e, At: m.token().At}
	return false
}

// take takes one sign, or stops.
func (m *automaton) take(sign string) bool {
	if !m.is(api.KSign, sign) {
		return m.stop(api.ErrParse)
	}
	m.at++
	return true
}

// push takes one sign that opens something, or stops.
func (m *automaton) push(sign string, w waiting) bool {
	if m.is(api.KSign, sign) && m.open >= api.MaxDeep {
		return m.stop(api.ErrLimit)
	}
	m.open++
	m.stack = append(m.stack, w)
	return m.take(sign)
}

// pop makes an expression of what waits on top, with the operands that belong to it.
func (m *automaton) pop() {
	w := m.stack[len(m.stack)-1]
	m.stack = m.stack[:len(m.stack)-1]
	if w.level == 0 || w.level == unaryLevel {
		m.open--
	}
	if w.node.Kind == 0 {
		return
	}
	from := len(m.operands) - w.kids
	w.node.Kids = slices.Clone(m.operands[from:])
	m.operands = append(m.operands[:from], w.node)
}

// typeOf takes a type by counting, or stops.
func (m *automaton) typeOf(of *api.Of) bool {
	for m.is(api.KSign, "[") {
		if of.Dims++; of.Dims > api.MaxDims {
			return m.stop(api.ErrLimit)
		}
		m.at++
	}
	if m.token().Kind != api.KName && !m.is(api.KWord, "int") && !m.is(api.KWord, "bool") {
		return m.stop(api.ErrParse)
	}
	of.Name = m.token().Text
	m.at++
	for i := 0; i < of.Dims; i++ {
		if !m.take("]") {
			return false
		}
	}
	return true
}

// operand reads up to and with the next whole primary expression, or stops. Where a bracket opens it goes on inside.
func (m *automaton) operand() bool {
	for {
		token := m.token()
		e := api.Expr{At: token.At}
		switch {
		case m.is(api.KSign, "-") || m.is(api.KSign, "!"):
			e.Kind = map[string]int{"-": api.ENeg, "!": api.ENot}[token.Text]
			if !m.push(token.Text, waiting{level: unaryLevel, kids: 1, node: e}) {
				return false
			}
			continue
		case m.is(api.KSign, "("):
			if !m.push("(", waiting{closing: ")"}) {
				return false
			}
			continue
		case m.is(api.KSign, ")") && len(m.stack) > 0 && m.stack[len(m.stack)-1].list && m.stack[len(m.stack)-1].kids == 0:
			m.at++
			m.pop()
			return true
		case token.Kind == api.KInt:
			e.Kind, e.N = api.EInt, token.N
		case m.is(api.KWord, "true"):
			e.Kind, e.N = api.EBool, 1
		case m.is(api.KWord, "false"):
			e.Kind = api.EBool
		case token.Kind == api.KName:
			e.Kind, e.Name = api.EVar, token.Text
		case m.is(api.KWord, "null"), m.is(api.KWord, "new"), m.is(api.KWord, "len"), m.is(api.KWord, "read"):
			m.at++
			opened, ok := m.word(token.Text, &e)
			if !ok {
				return false
			}
			if opened {
				continue
			}
			m.operands = append(m.operands, e)
			return true
		default:
			return m.stop(api.ErrParse)
		}
		m.at++
		if e.Kind == api.EVar && m.is(api.KSign, "(") {
			e.Kind = api.ECall
			if !m.push("(", waiting{closing: ")", list: true, node: e}) {
				return false
			}
			continue
		}
		m.operands = append(m.operands, e)
		return true
	}
}

// word reads what follows one of the keywords; opened tells that it goes on inside a bracket.
func (m *automaton) word(text string, e *api.Expr) (opened, ok bool) {
	switch text {
	case "null":
		e.Kind = api.ENull
		return false, m.typeOf(&e.Of)
	case "read":
		e.Kind = api.ERead
		if !m.push("(", waiting{}) || !m.take(")") {
			return false, false
		}
		m.pop()
		return false, true
	case "len":
		e.Kind = api.ELen
		return true, m.push("(", waiting{closing: ")", kids: 1, node: *e})
	}
	if m.is(api.KSign, "[") {
		m.at++
		e.Kind = api.EMake
		return true, m.typeOf(&e.Of) && m.take("]") && m.push("(", waiting{closing: ")", kids: 1, node: *e})
	}
	if m.token().Kind != api.KName {
		return false, m.stop(api.ErrParse)
	}
	e.Kind, e.Of.Name = api.ENew, m.token().Text
	m.at++
	return false, true
}

// reduce makes expressions of all operators on top that bind at least as strongly.
func (m *automaton) reduce(level int) {
	for len(m.stack) > 0 && m.stack[len(m.stack)-1].level >= level {
		m.pop()
	}
}

// afterOperand reads what follows an operand: whether another one is due, and whether the run goes on at all.
func (m *automaton) afterOperand() (due, on bool) {
	token := m.token()
	switch {
	case m.is(api.KSign, "."):
		m.at++
		if m.token().Kind != api.KName {
			return false, m.stop(api.ErrParse)
		}
		top := len(m.operands) - 1
		m.operands[top] = api.Expr{Kind: api.EField, Name: m.token().Text, At: token.At, Kids: []api.Expr{m.operands[top]}}
		m.at++
		return false, true
	case m.is(api.KSign, "["):
		return true, m.push("[", waiting{closing: "]", kids: 2, node: api.Expr{Kind: api.EItem, At: token.At}})
	}
	if level := binaryLevels()[token.Text]; level > 0 && token.Kind == api.KSign {
		m.reduce(level)
		m.stack = append(m.stack, waiting{level: level, kids: 2, node: api.Expr{Kind: binaryKinds()[token.Text], At: token.At}})
		m.at++
		return true, true
	}
	m.reduce(1)
	if len(m.stack) == 0 {
		return false, false
	}
	w := &m.stack[len(m.stack)-1]
	if w.list {
		w.kids++
	}
	if w.list && m.is(api.KSign, ",") {
		m.at++
		return true, true
	}
	if !m.take(w.closing) {
		return false, false
	}
	m.pop()
	return false, true
}

// run is the expression, the index behind it, and the fault.
func (m *automaton) run() (api.Expr, int, api.Fault) {
	due, on := true, true
	for on {
		if due {
			on, due = m.operand(), false
		} else {
			due, on = m.afterOperand()
		}
	}
	if m.fault.E != api.OK {
		return api.Expr{}, 0, m.fault
	}
	return m.operands[0], m.at, api.Fault{}
}

func checkAutomaton(t *testing.T, list []api.Tok, at, open int) {
	t.Helper()
	m := automaton{tokens: list, at: at, open: max(open, 0)}
	want, end, fault := m.run()
	if fault.E != api.OK {
		checkRefused(t, list, at, open, fault)
	} else {
		checkParsed(t, list, at, open, want, end)
	}
}

// vocabulary is a token of each sort that the grammar can tell apart.
func vocabulary() []api.Tok {
	var list []api.Tok
	for _, text := range []string{"(", ")", "[", "]", ",", ".", "-", "!", "*", "<", "||", ";"} {
		list = append(list, api.Tok{Kind: api.KSign, Text: text})
	}
	for _, text := range []string{"true", "null", "new", "len", "read", "int", "if"} {
		list = append(list, api.Tok{Kind: api.KWord, Text: text})
	}
	return append(list, api.Tok{Kind: api.KName, Text: "a"}, api.Tok{Kind: api.KInt, N: 1})
}

// placed are the tokens with places that grow from token to token.
func placed(list []api.Tok) []api.Tok {
	for i := range list {
		list[i].At = 10 + 3*i
	}
	return list
}

// P3.1: every list of up to four tokens, with room for all brackets, for one and for none.
func TestAllShortLists(t *testing.T) {
	words := vocabulary()
	lists := [][]api.Tok{nil}
	for range 4 {
		var longer [][]api.Tok
		for _, list := range lists {
			for _, token := range words {
				longer = append(longer, placed(append(slices.Clone(list), token)))
			}
		}
		for _, list := range longer {
			for _, open := range []int{0, api.MaxDeep - 1, api.MaxDeep} {
				checkAutomaton(t, list, 0, open)
			}
		}
		lists = longer
	}
}

// writer makes lists of tokens by the grammar.
type writer struct {
	source *rand.Rand
	list   []api.Tok
}

func (w *writer) sign(text string)    { w.list = append(w.list, api.Tok{Kind: api.KSign, Text: text}) }
func (w *writer) keyword(text string) { w.list = append(w.list, api.Tok{Kind: api.KWord, Text: text}) }

func (w *writer) name() {
	w.list = append(w.list, api.Tok{Kind: api.KName, Text: string(rune('a' + w.source.Intn(26)))})
}

func (w *writer) typeOf() {
	dims := w.source.Intn(api.MaxDims + 1)
	for range dims {
		w.sign("[")
	}
	switch w.source.Intn(3) {
	case 0:
		w.keyword("int")
	case 1:
		w.keyword("bool")
	default:
		w.name()
	}
	for range dims {
		w.sign("]")
	}
}

func (w *writer) operators() []string {
	return []string{"||", "&&", "<", "<=", "==", "!=", "+", "-", "*", "/", "%"}
}

func (w *writer) expression(size int) {
	if size <= 0 {
		w.leaf()
		return
	}
	switch w.source.Intn(9) {
	case 0, 1, 2:
		w.expression(size / 2)
		w.sign(w.operators()[w.source.Intn(11)])
		w.expression(size / 2)
	case 3:
		w.sign([]string{"-", "!"}[w.source.Intn(2)])
		w.expression(size - 1)
	case 4:
		w.expression(size - 1)
		w.sign(".")
		w.name()
	case 5:
		w.expression(size / 2)
		w.sign("[")
		w.expression(size / 2)
		w.sign("]")
	case 6:
		w.call(size)
	default:
		w.enclosed(size - 1)
	}
}

func (w *writer) call(size int) {
	w.name()
	w.sign("(")
	for i := range w.source.Intn(4) {
		if i > 0 {
			w.sign(",")
		}
		w.expression(size / 3)
	}
	w.sign(")")
}

func (w *writer) enclosed(size int) {
	switch w.source.Intn(3) {
	case 0:
		w.keyword("len")
	case 1:
		w.keyword("new")
		w.sign("[")
		w.typeOf()
		w.sign("]")
	}
	w.sign("(")
	w.expression(size)
	w.sign(")")
}

func (w *writer) leaf() {
	switch w.source.Intn(8) {
	case 0:
		w.keyword("true")
	case 1:
		w.keyword("false")
	case 2:
		w.keyword("null")
		w.typeOf()
	case 3:
		w.keyword("new")
		w.name()
	case 4:
		w.keyword("read")
		w.sign("(")
		w.sign(")")
	case 5:
		w.list = append(w.list, api.Tok{Kind: api.KInt, N: w.source.Intn(100)})
	default:
		w.name()
	}
}

// spoiled is a list with a token replaced, left out or put in.
func spoiled(source *rand.Rand, list []api.Tok) []api.Tok {
	words := vocabulary()
	i := source.Intn(len(list))
	token := words[source.Intn(len(words))]
	switch source.Intn(3) {
	case 0:
		return slices.Replace(slices.Clone(list), i, i+1, token)
	case 1:
		return slices.Delete(slices.Clone(list), i, i+1)
	}
	return slices.Insert(slices.Clone(list), i, token)
}

// P3.1: long lists by the grammar and spoiled ones, the same ones in every run, from several places and depths on.
func TestLongLists(t *testing.T) {
	w := writer{source: rand.New(rand.NewSource(3))}
	for i := range 20000 {
		w.list = nil
		w.expression(i % 40)
		list := append(w.list, api.Tok{Kind: api.KEnd})
		placed(list)
		checkAutomaton(t, list, 0, 0)
		checkAutomaton(t, list, 0, api.MaxDeep-1-i%8)
		checkAutomaton(t, list, w.source.Intn(len(list)), i%api.MaxDeep)
		list = placed(spoiled(w.source, list))
		checkAutomaton(t, list, 0, 0)
		checkAutomaton(t, placed(spoiled(w.source, append(list, list...))), 0, api.MaxDeep-1-i%8)
	}
}
