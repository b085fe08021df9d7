package prog

import (
	"runrig/api"
	"runrig/cursor"
	"runrig/expr"
	"runrig/stmt"
)

// reader reads declarations. Its steps behind a fault are harmless: see cursor.Cursor.
type reader struct{ cursor.Cursor }

func (r *reader) program() api.Prog {
	var p api.Prog
	// Behind a fault, too, there is nothing but a KEnd.
	for r.Peek().Kind != api.KEnd {
		switch {
		case r.Sees(api.KWord, "record"):
			r.limit(len(p.Recs), api.MaxRecs)
			p.Recs = append(p.Recs, r.record())
		case r.Sees(api.KWord, "global"):
			r.limit(len(p.Globals), api.MaxGlobals)
			p.Globals = append(p.Globals, r.global())
		case r.Sees(api.KWord, "func"):
			r.limit(len(p.Funcs), api.MaxFuncs)
			p.Funcs = append(p.Funcs, r.function())
		default:
			r.Fail(api.ErrParse)
		}
	}
	return p
}

// limit refuses the next token, with which one more begins, where there are as many as there may be.
func (r *reader) limit(count, most int) {
	if count == most {
		r.Fail(api.ErrLimit)
	}
}

func (r *reader) record() api.Rec {
	r.Next()
	rec := api.Rec{At: r.Peek().At, Name: r.Name()}
	r.Sign("{")
	for r.Peek().Kind == api.KName {
		rec.Fields = r.oneMore(rec.Fields, api.MaxFields)
		r.Sign(";")
	}
	r.Sign("}")
	return rec
}

func (r *reader) global() api.Param {
	r.Next()
	g := r.declared()
	r.Sign(";")
	return g
}

func (r *reader) function() api.Func {
	r.Next()
	f := api.Func{At: r.Peek().At, Name: r.Name(), Params: r.parameters()}
	if r.SeesSign(":") {
		r.Next()
		f.Has = true
		f.Result = cursor.Read(&r.Cursor, expr.Of)
	}
	f.Body = cursor.Read(&r.Cursor, outermostBlock)
	return f
}

func (r *reader) parameters() []api.Param {
	var list []api.Param
	r.Sign("(")
	if !r.SeesSign(")") {
		list = r.oneMore(list, api.MaxParams)
	}
	for r.SeesSign(",") {
		r.Next()
		list = r.oneMore(list, api.MaxParams)
	}
	r.Sign(")")
	return list
}

// oneMore reads a name with its type onto a list. Only a name can be one too many: any other token is not allowed here.
func (r *reader) oneMore(list []api.Param, most int) []api.Param {
	if r.Peek().Kind == api.KName {
		r.limit(len(list), most)
	}
	return append(list, r.declared())
}

// declared reads a name, a colon and a type.
func (r *reader) declared() api.Param {
	p := api.Param{At: r.Peek().At, Name: r.Name()}
	r.Sign(":")
	p.Of = cursor.Read(&r.Cursor, expr.Of)
	return p
}

// outermostBlock reads a block around which nothing is open.
func outermostBlock(tokens []api.Tok, at int) ([]api.Stmt, int, api.Fault) {
	return stmt.Block(tokens, at, 0)
}
