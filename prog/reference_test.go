package prog_test

import (
	"math/rand"
	"strings"
	"testing"

	"runrig/api"
	"runrig/expr"
	"runrig/lex"
	"runrig/stmt"
)

// This file holds Parse against an automaton that reads the same language in another way: it goes from place to place of a
// chart, and keeps nothing but the program so far.

// arrow leads from a place of the grammar to the next one. It is passed with a sign or a keyword, or with N (a name), T (a
// type), B (a block) or - (nothing). With the token it begins at, it then adds to the program; false if that is one too many.
type arrow struct {
	pass, to string
	add      func(a *automaton, token api.Tok) bool
}

// chart are the arrows that leave each place; the first one that fits is taken.
func chart() map[string][]arrow {
	return map[string][]arrow{
		"program":     {{"record", "record", (*automaton).newRecord}, {"global", "global", (*automaton).newGlobal}, {"func", "func", (*automaton).newFunc}},
		"record":      {{"N", "record R", (*automaton).nameRecord}},
		"record R":    {{"{", "record {", nil}},
		"record {":    {{"N", "record a", (*automaton).nameField}, {"}", "program", nil}},
		"record a":    {{":", "record a:", nil}},
		"record a:":   {{"T", "record a: T", (*automaton).typeField}},
		"record a: T": {{";", "record {", nil}},
		"global":      {{"N", "global g", (*automaton).nameGlobal}},
		"global g":    {{":", "global g:", nil}},
		"global g:":   {{"T", "global g: T", (*automaton).typeGlobal}},
		"global g: T": {{";", "program", nil}},
		"func":        {{"N", "func f", (*automaton).nameFunc}},
		"func f":      {{"(", "func (", nil}},
		"func (":      {{")", "func ()", nil}, {"-", "func (a: T,", nil}},
		"func (a: T,": {{"N", "func (a", (*automaton).nameParam}},
		"func (a":     {{":", "func (a:", nil}},
		"func (a:":    {{"T", "func (a: T", (*automaton).typeParam}},
		"func (a: T":  {{",", "func (a: T,", nil}, {")", "func ()", nil}},
		"func ()":     {{":", "func ():", nil}, {"-", "func (): T", nil}},
		"func ():":    {{"T", "func (): T", (*automaton).typeResult}},
		"func (): T":  {{"B", "program", (*automaton).body}},
	}
}

type automaton struct {
	tokens []api.Tok
	at     int
	made   api.Prog
	fault  api.Fault

	of    api.Of     // the type that was read last
	block []api.Stmt // the block that was read last
}

// reference is Parse by the automaton.
func reference(s string) (api.Prog, api.Fault) {
	tokens, fault := lex.Tokens(s)
	if fault.E != api.OK {
		return api.Prog{}, fault
	}
	a := automaton{tokens: tokens}
	arrows := chart()
	for place := "program"; place != "program" || a.at < len(tokens)-1; {
		place = a.leave(arrows[place])
		if a.fault.E != api.OK {
			return api.Prog{}, a.fault
		}
	}
	return a.made, api.Fault{}
}

// leave passes an arrow, and answers where it leads; there may be a fault then.
func (a *automaton) leave(arrows []arrow) string {
	token := a.tokens[a.at]
	for _, arrow := range arrows {
		if !fits(arrow.pass, token) {
			continue
		}
		a.pass(arrow.pass)
		if a.fault.E == api.OK && arrow.add != nil && !arrow.add(a, token) {
			a.fault = api.Fault{E: api.ErrLimit, At: token.At}
		}
		return arrow.to
	}
	a.fault = api.Fault{E: api.ErrParse, At: token.At}
	return ""
}

func fits(pass string, token api.Tok) bool {
	switch pass {
	case "T", "B", "-":
		return true
	case "N":
		return token.Kind == api.KName
	}
	return (token.Kind == api.KWord || token.Kind == api.KSign) && token.Text == pass
}

func (a *automaton) pass(pass string) {
	switch pass {
	case "T":
		a.of, a.at, a.fault = expr.Of(a.tokens, a.at)
	case "B":
		a.block, a.at, a.fault = stmt.Block(a.tokens, a.at, 0)
	case "-":
	default:
		a.at++
	}
}

func last[E any](list []E) *E { return &list[len(list)-1] }

// added adds a zero item to a list, unless there are as many as there may be.
func added[E any](list *[]E, most int) bool {
	if len(*list) >= most {
		return false
	}
	*list = append(*list, *new(E))
	return true
}

func (a *automaton) newRecord(api.Tok) bool { return added(&a.made.Recs, api.MaxRecs) }
func (a *automaton) newGlobal(api.Tok) bool { return added(&a.made.Globals, api.MaxGlobals) }
func (a *automaton) newFunc(api.Tok) bool   { return added(&a.made.Funcs, api.MaxFuncs) }

func (a *automaton) nameRecord(token api.Tok) bool {
	last(a.made.Recs).Name, last(a.made.Recs).At = token.Text, token.At
	return true
}

func (a *automaton) nameFunc(token api.Tok) bool {
	last(a.made.Funcs).Name, last(a.made.Funcs).At = token.Text, token.At
	return true
}

func (a *automaton) nameGlobal(token api.Tok) bool { return nameLast(a.made.Globals, token) }

func (a *automaton) nameField(token api.Tok) bool {
	fields := &last(a.made.Recs).Fields
	return added(fields, api.MaxFields) && nameLast(*fields, token)
}

func (a *automaton) nameParam(token api.Tok) bool {
	params := &last(a.made.Funcs).Params
	return added(params, api.MaxParams) && nameLast(*params, token)
}

func nameLast(list []api.Param, token api.Tok) bool {
	last(list).Name, last(list).At = token.Text, token.At
	return true
}

func (a *automaton) typeField(api.Tok) bool  { return a.typeLast(last(a.made.Recs).Fields) }
func (a *automaton) typeGlobal(api.Tok) bool { return a.typeLast(a.made.Globals) }
func (a *automaton) typeParam(api.Tok) bool  { return a.typeLast(last(a.made.Funcs).Params) }

func (a *automaton) typeLast(list []api.Param) bool {
	last(list).Of = a.of
	return true
}

func (a *automaton) typeResult(api.Tok) bool {
	last(a.made.Funcs).Has, last(a.made.Funcs).Result = true, a.of
	return true
}

func (a *automaton) body(api.Tok) bool {
	last(a.made.Funcs).Body = a.block
	return true
}

// checkReference holds Parse against the automaton; it tells whether the text is a program.
func checkReference(t *testing.T, s string) bool {
	t.Helper()
	want, fault := reference(s)
	if fault.E != api.OK {
		checkRefused(t, s, fault.E, fault.At)
		return false
	}
	checkParsed(t, s, want)
	return true
}

// pieces are texts of a token of each sort that the grammar can tell apart, and of one that is none.
func pieces() []string {
	return strings.Fields("record global func var if int a R 1 { } ( ) [ ] ; : , . = - #")
}

// P5.1: every text of up to three tokens, also behind the beginning of each declaration.
func TestAllShortTexts(t *testing.T) {
	for _, ahead := range []string{
		"", "record", "record R {", "record R { a :", "record R { a : int ;", "record R { }", "global", "global g : [", "global g : int", "func", "func f (", "func f ( a : [ b ]", "func f ( a : b ,",
		"func f ( ) :", "func f ( ) {", "func f ( ) { a = b ;", "func f ( a : b , c : [ d ] ) : [ int ] {", "func f ( ) { }",
	} {
		texts := []string{ahead}
		for range 3 {
			var longer []string
			for _, s := range texts {
				for _, piece := range pieces() {
					longer = append(longer, s+" "+piece)
					checkReference(t, s+" "+piece)
				}
			}
			texts = longer
		}
	}
}

// everyDeclaration is a text with every form of declaration, tokens separated by spaces.
const everyDeclaration = `record R { } global g : [ [ R ] ] ; record S { a : int ; b : [ bool ] ; c : R ; } func f ( ) { }
	func g ( a : int ) { let x : S = new S ; x . a = - 1 ; } global h : bool ; func h ( b : [ [ [ R ] ] ] , c : bool , d : S ) : [ int ] { if c { return null [ int ] ; } else { f ( ) ; } }
	func i ( ) : bool { while true { var y : int ; print y ; } return h ( null R , false ) ; }`

// P5.1: at each place of a text, each token instead of the one that stands there, ahead of it, and that one left out; and the
// text as far as there.
func TestEachTokenAtEachPlace(t *testing.T) {
	tokens := strings.Fields(everyDeclaration)
	if !checkReference(t, everyDeclaration) {
		t.Error("the text is no program")
	}
	for i := range tokens {
		begun, rest := strings.Join(tokens[:i], " "), strings.Join(tokens[i+1:], " ")
		checkReference(t, begun)
		checkReference(t, begun+" "+rest)
		for _, piece := range append(pieces(), strings.Fields(keywords+" "+signs)...) {
			checkReference(t, begun+" "+piece+" "+rest)
			checkReference(t, begun+" "+piece+" "+tokens[i]+" "+rest)
		}
	}
}

// writer makes texts by the grammar.
type writer struct{ source *rand.Rand }

func (w writer) any(list ...string) string { return list[w.source.Intn(len(list))] }

// several are up to most texts with a separator between them.
func (w writer) several(most int, separator string, one func() string) string {
	var list []string
	for range w.source.Intn(most + 1) {
		list = append(list, one())
	}
	return strings.Join(list, separator)
}

func (w writer) name() string { return w.any("a", "b", "x1", "R", "abcdefgh") }
func (w writer) typed() string {
	return w.any("int", "bool", "R", "[ a ]", "[ [ int ] ]", "[ [ [ R ] ] ]")
}
func (w writer) param() string { return w.name() + " : " + w.typed() }
func (w writer) field() string { return w.param() + " ;" }

func (w writer) statement() string {
	return w.any("return ;", "return 1 ;", "f ( a , - b ) ;", "x . y = z ;", "if a { } else { return ; }", "while a < b { print a [ 1 ] ; }", "let a : [ int ] = b ;", "var a : R ;")
}

func (w writer) declaration() string {
	switch w.source.Intn(3) {
	case 0:
		return "record " + w.name() + " { " + w.several(9, " ", w.field) + " }"
	case 1:
		return "global " + w.field()
	}
	return "func " + w.name() + " ( " + w.several(7, " , ", w.param) + " ) " + w.any("", ": "+w.typed()) + " { " + w.several(5, " ", w.statement) + " }"
}

// P5.1: long texts by the grammar, some of them beyond the limits, and spoiled ones, the same ones in every run.
func TestManyDeclarations(t *testing.T) {
	w := writer{rand.New(rand.NewSource(5))}
	accepted := 0
	for i := range 3000 {
		s := w.several(i%50, " ", w.declaration)
		if checkReference(t, s) {
			accepted++
		}
		tokens := strings.Fields(s)
		for range 3 {
			if len(tokens) > 0 {
				tokens[w.source.Intn(len(tokens))] = w.any(pieces()...)
			}
			checkReference(t, strings.Join(tokens, " "))
		}
	}
	if accepted < 1000 {
		t.Errorf("only %d of the texts are programs", accepted)
	}
}

// W1: texts of any bytes.
func TestAnyBytes(t *testing.T) {
	source := rand.New(rand.NewSource(6))
	for range 20000 {
		text := make([]byte, source.Intn(40))
		source.Read(text)
		checkReference(t, string(text))
	}
}
