package expr

import (
	"runrig/api"
	"runrig/cursor"
)

// reader reads an expression. Its steps behind a fault are harmless: see cursor.Cursor.
type reader struct {
	cursor.Nested

	byKind   map[int]func() api.Expr
	byWord   map[string]func(*reader) api.Expr
	bySuffix map[string]func(*reader, api.Expr) api.Expr
}

func newReader(l []api.Tok, at, open int) *reader {
	r := &reader{Nested: cursor.NewNested(l, at, open)}
	r.byKind = r.stepsByKind()
	r.byWord = stepsByWord()
	r.bySuffix = stepsBySuffix()
	return r
}

// stepsByKind are the steps by the kind of the token with which a primary expression begins.
func (r *reader) stepsByKind() map[int]func() api.Expr {
	return map[int]func() api.Expr{
		api.KInt:  r.number,
		api.KName: r.variableOrCall,
		api.KWord: r.keyword,
		api.KSign: r.parenthesized,
	}
}

// stepsByWord are the steps by the keyword with which a primary expression begins.
func stepsByWord() map[string]func(*reader) api.Expr {
	return map[string]func(*reader) api.Expr{
		"true":  (*reader).truth,
		"false": (*reader).truth,
		"null":  (*reader).null,
		"new":   (*reader).creation,
		"len":   (*reader).length,
		"read":  (*reader).input,
	}
}

// stepsBySuffix are the steps by the sign with which something begins that follows a primary expression.
func stepsBySuffix() map[string]func(*reader, api.Expr) api.Expr {
	return map[string]func(*reader, api.Expr) api.Expr{
		".": (*reader).field,
		"[": (*reader).item,
	}
}

// operator is a binary operator; one of a greater level binds more strongly.
type operator struct {
	text        string
	level, kind int
}

const (
	weakest   = 1
	strongest = 5
)

var operators = [...]operator{
	{"||", 1, api.EOr},
	{"&&", 2, api.EAnd},
	{"<", 3, api.ELess}, {"<=", 3, api.ELeq}, {"==", 3, api.ESame}, {"!=", 3, api.EDiff},
	{"+", 4, api.EAdd}, {"-", 4, api.ESub},
	{"*", 5, api.EMul}, {"/", 5, api.EDiv}, {"%", 5, api.ERem},
}

func (r *reader) expression() api.Expr { return r.binary(weakest) }

// binary reads operators of this level, whose operands are expressions of the next one.
func (r *reader) binary(level int) api.Expr {
	if level > strongest {
		return r.unary()
	}
	left := r.binary(level + 1)
	for {
		kind, ok := r.seesOperator(level)
		if !ok {
			return left
		}
		at := r.Next().At
		right := r.binary(level + 1)
		left = api.Expr{Kind: kind, At: at, Kids: []api.Expr{left, right}}
	}
}

// seesOperator is the kind of the operator of this level that comes next; false if none does.
func (r *reader) seesOperator(level int) (int, bool) {
	for _, o := range operators {
		if o.level == level && r.SeesSign(o.text) {
			return o.kind, true
		}
	}
	return 0, false
}

func (r *reader) unary() api.Expr {
	switch {
	case r.SeesSign("-"):
		return r.prefixed("-", api.ENeg)
	case r.SeesSign("!"):
		return r.prefixed("!", api.ENot)
	}
	return r.postfix()
}

func (r *reader) prefixed(sign string, kind int) api.Expr {
	at := r.Enter(sign).At
	operand := r.unary()
	r.Leave()
	return api.Expr{Kind: kind, At: at, Kids: []api.Expr{operand}}
}

func (r *reader) postfix() api.Expr {
	e := r.primary()
	for r.Peek().Kind == api.KSign {
		step, ok := r.bySuffix[r.Peek().Text]
		if !ok {
			break
		}
		e = step(r, e)
	}
	return e
}

func (r *reader) field(of api.Expr) api.Expr {
	at := r.Sign(".").At
	return api.Expr{Kind: api.EField, Name: r.Name(), At: at, Kids: []api.Expr{of}}
}

func (r *reader) item(of api.Expr) api.Expr {
	at := r.Peek().At
	return api.Expr{Kind: api.EItem, At: at, Kids: []api.Expr{of, r.enclosed("[", "]")}}
}

func (r *reader) primary() api.Expr {
	step, ok := r.byKind[r.Peek().Kind]
	if !ok {
		return r.refuse()
	}
	return step()
}

func (r *reader) number() api.Expr {
	token := r.Next()
	return api.Expr{Kind: api.EInt, N: token.N, At: token.At}
}

func (r *reader) variableOrCall() api.Expr {
	e := api.Expr{Kind: api.EVar, At: r.Peek().At}
	e.Name = r.Name()
	if r.SeesSign("(") {
		e.Kind = api.ECall
		e.Kids = r.arguments()
	}
	return e
}

func (r *reader) arguments() []api.Expr {
	var list []api.Expr
	r.Enter("(")
	if !r.SeesSign(")") {
		list = append(list, r.expression())
	}
	for r.SeesSign(",") {
		r.Next()
		list = append(list, r.expression())
	}
	r.closeWith(")")
	return list
}

// parenthesized is the expression inside, as it is: the parentheses leave no trace.
func (r *reader) parenthesized() api.Expr { return r.enclosed("(", ")") }

func (r *reader) keyword() api.Expr {
	step, ok := r.byWord[r.Peek().Text]
	if !ok {
		return r.refuse()
	}
	return step(r)
}

func (r *reader) truth() api.Expr {
	e := api.Expr{Kind: api.EBool, At: r.Peek().At}
	if r.Next().Text == "true" {
		e.N = 1
	}
	return e
}

func (r *reader) null() api.Expr {
	at := r.Next().At
	return api.Expr{Kind: api.ENull, Of: readType(&r.Cursor), At: at}
}

func (r *reader) creation() api.Expr {
	at := r.Next().At
	if !r.SeesSign("[") {
		return api.Expr{Kind: api.ENew, Of: api.Of{Name: r.Name()}, At: at}
	}
	// This bracket counts neither as open nor as a dimension of the type inside.
	r.Next()
	of := readType(&r.Cursor)
	r.Sign("]")
	return api.Expr{Kind: api.EMake, Of: of, At: at, Kids: []api.Expr{r.enclosed("(", ")")}}
}

func (r *reader) length() api.Expr {
	at := r.Next().At
	return api.Expr{Kind: api.ELen, At: at, Kids: []api.Expr{r.enclosed("(", ")")}}
}

func (r *reader) input() api.Expr {
	at := r.Next().At
	r.Enter("(")
	r.closeWith(")")
	return api.Expr{Kind: api.ERead, At: at}
}

// enclosed reads an expression between two brackets.
func (r *reader) enclosed(opening, closing string) api.Expr {
	r.Enter(opening)
	e := r.expression()
	r.closeWith(closing)
	return e
}

// closeWith takes the bracket that closes what was entered last.
func (r *reader) closeWith(sign string) {
	r.Sign(sign)
	r.Leave()
}

// refuse says that no expression begins with the next token.
func (r *reader) refuse() api.Expr {
	r.Fail(api.ErrParse)
	return api.Expr{}
}
