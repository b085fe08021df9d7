package stmt

import (
	"runrig/api"
	"runrig/cursor"
	"runrig/expr"
)

// reader reads statements. Its steps behind a fault are harmless: see cursor.Cursor.
type reader struct {
	cursor.Nested

	byWord map[string]func(*reader) api.Stmt
	bySign map[string]func(api.Expr) api.Stmt
}

func newReader(l []api.Tok, at, open int) *reader {
	r := &reader{Nested: cursor.NewNested(l, at, open)}
	r.byWord = stepsByWord()
	r.bySign = r.stepsBySign()
	return r
}

// stepsByWord are the steps by the keyword with which a statement begins.
func stepsByWord() map[string]func(*reader) api.Stmt {
	return map[string]func(*reader) api.Stmt{
		"var":    (*reader).variable,
		"let":    (*reader).definition,
		"if":     (*reader).choice,
		"while":  (*reader).loop,
		"return": (*reader).result,
		"print":  (*reader).output,
	}
}

// stepsBySign are the steps by the sign behind the expression with which any other statement begins.
func (r *reader) stepsBySign() map[string]func(api.Expr) api.Stmt {
	return map[string]func(api.Expr) api.Stmt{
		";": r.call,
		"=": r.assignment,
	}
}

func (r *reader) block() []api.Stmt {
	var list []api.Stmt
	r.Enter("{")
	// No statement begins with a KEnd, and behind a fault there is nothing else.
	for !r.SeesSign("}") && r.Peek().Kind != api.KEnd {
		list = append(list, r.statement())
	}
	r.Sign("}")
	r.Leave()
	return list
}

func (r *reader) statement() api.Stmt {
	first := r.Peek()
	step, ok := r.byWord[first.Text]
	if !ok || first.Kind != api.KWord {
		step = (*reader).fromExpression
	}
	s := step(r)
	s.At = first.At
	return s
}

func (r *reader) variable() api.Stmt {
	s := r.declaration(api.SVar)
	r.Sign(";")
	return s
}

func (r *reader) definition() api.Stmt {
	s := r.declaration(api.SLet)
	r.Sign("=")
	s.Es = r.expressions()
	r.Sign(";")
	return s
}

// declaration reads a keyword, and the name and the type that it declares.
func (r *reader) declaration(kind int) api.Stmt {
	r.Next()
	s := api.Stmt{Kind: kind, Name: r.Name()}
	r.Sign(":")
	s.Of = cursor.Read(&r.Cursor, expr.Of)
	return s
}

func (r *reader) choice() api.Stmt {
	r.Next()
	s := api.Stmt{Kind: api.SIf, Es: r.expressions(), Body: r.block()}
	if r.Sees(api.KWord, "else") {
		r.Next()
		s.Else = r.block()
	}
	return s
}

func (r *reader) loop() api.Stmt {
	r.Next()
	return api.Stmt{Kind: api.SWhile, Es: r.expressions(), Body: r.block()}
}

func (r *reader) result() api.Stmt {
	r.Next()
	s := api.Stmt{Kind: api.SRet}
	if !r.SeesSign(";") {
		s.Es = r.expressions()
	}
	r.Sign(";")
	return s
}

func (r *reader) output() api.Stmt {
	r.Next()
	s := api.Stmt{Kind: api.SPrint, Es: r.expressions()}
	r.Sign(";")
	return s
}

// fromExpression reads a statement whose kind is decided by the sign behind its first expression.
func (r *reader) fromExpression() api.Stmt {
	e := r.expression()
	step, ok := r.bySign[r.Peek().Text]
	if !ok || r.Peek().Kind != api.KSign {
		return r.refuse()
	}
	return step(e)
}

func (r *reader) call(e api.Expr) api.Stmt {
	if e.Kind != api.ECall {
		return r.refuse()
	}
	r.Next()
	return api.Stmt{Kind: api.SDo, Es: []api.Expr{e}}
}

func (r *reader) assignment(to api.Expr) api.Stmt {
	s := api.Stmt{Kind: api.SPut, Es: []api.Expr{to}}
	switch to.Kind {
	case api.EVar:
		s = api.Stmt{Kind: api.SSet, Name: to.Name}
	case api.EField, api.EItem:
	default:
		return r.refuse()
	}
	r.Next()
	s.Es = append(s.Es, r.expression())
	r.Sign(";")
	return s
}

func (r *reader) expression() api.Expr {
	return cursor.Read(&r.Cursor, func(tokens []api.Tok, at int) (api.Expr, int, api.Fault) {
		return expr.Parse(tokens, at, r.Open())
	})
}

// expressions is the list of the one expression that is read.
func (r *reader) expressions() []api.Expr { return []api.Expr{r.expression()} }

// refuse says that the next token is not allowed here.
func (r *reader) refuse() api.Stmt {
	r.Fail(api.ErrParse)
	return api.Stmt{}
}
