package typed_test

import (
	"slices"
	"strings"

	"runrig/api"
	"runrig/heads"
	"runrig/show"
)

// This file is chapter 8 once more, in another way: types are texts, what an expression demands of its Kids is a pattern, and
// all demands of a program are listed in the document's order, of which the first that does not hold is the fault.

// demand is what must hold, and where else a fault is told.
type demand struct {
	holds bool
	at    int
}

// local is a variable with the text of its type.
type local struct{ name, of string }

// reference collects the demands of a program. What comes behind one that does not hold means nothing.
type reference struct {
	p       api.Prog
	demands []demand
	locals  []local
	has     bool
	result  string
}

func (r *reference) demand(holds bool, at int) bool {
	r.demands = append(r.demands, demand{holds, at})
	return holds
}

// pattern is what the Kids of a kind are, and the expression then: T is any type, the same one throughout.
func pattern(kind int) string {
	switch kind {
	case api.EInt, api.ERead:
		return "int"
	case api.EBool:
		return "bool"
	case api.EItem:
		return "[T] int T"
	case api.ELen:
		return "[T] int"
	case api.ENeg:
		return "int int"
	case api.ENot:
		return "bool bool"
	case api.EAdd, api.ESub, api.EMul, api.EDiv, api.ERem:
		return "int int int"
	case api.ELess, api.ELeq:
		return "int int bool"
	case api.ESame, api.EDiff:
		return "T T bool"
	case api.EAnd, api.EOr:
		return "bool bool bool"
	}
	return ""
}

// match is what the last part of a pattern is where the other ones are these texts; false if they are not.
func match(pattern string, kids []string) (string, bool) {
	parts := strings.Fields(pattern)
	if len(parts) != len(kids)+1 {
		return "", false
	}
	bound := ""
	for i, kid := range kids {
		before, after, generic := strings.Cut(parts[i], "T")
		switch {
		case !generic:
			if kid != parts[i] {
				return "", false
			}
		case !strings.HasPrefix(kid, before) || !strings.HasSuffix(kid, after):
			return "", false
		default:
			of := strings.TrimSuffix(strings.TrimPrefix(kid, before), after)
			if bound != "" && bound != of {
				return "", false
			}
			bound = of
		}
	}
	return strings.ReplaceAll(parts[len(kids)], "T", bound), true
}

func (r *reference) exists(o api.Of) bool {
	isRecord := slices.ContainsFunc(r.p.Recs, func(rec api.Rec) bool { return rec.Name == o.Name })
	return (isRecord || o.Name == "int" || o.Name == "bool") && o.Dims >= 0 && o.Dims <= api.MaxDims
}

// typeOf is the type that a text denotes.
func (r *reference) typeOf(text string) api.Type {
	dims := strings.Count(text, "[")
	switch base := strings.Trim(text, "[]"); base {
	case "":
		return api.Type{}
	case "int":
		return api.Type{Base: api.TInt, Dims: dims}
	case "bool":
		return api.Type{Base: api.TBool, Dims: dims}
	default:
		rec := slices.IndexFunc(r.p.Recs, func(rec api.Rec) bool { return rec.Name == base })
		return api.Type{Base: api.TRec, Rec: rec, Dims: dims}
	}
}

// variable is the Ref and the type of what a name denotes here.
func (r *reference) variable(name string) (int, string) {
	if i := slices.IndexFunc(r.locals, func(l local) bool { return l.name == name }); i >= 0 {
		return i, r.locals[i].of
	}
	if i := slices.IndexFunc(r.p.Globals, func(g api.Param) bool { return g.Name == name }); i >= 0 {
		return -1 - i, show.Type(r.p.Globals[i].Of)
	}
	return 0, ""
}

// expr lists the demands of an expression, and returns it as it is checked, with the text of its type.
func (r *reference) expr(e api.Expr) (api.Expr, string) {
	form := e.Kind > 0 && e.Kind <= api.EOr && (e.Kind == api.ECall || len(e.Kids) == kidCount(e.Kind)) && (e.Kind != api.EBool || e.N == 0 || e.N == 1)
	if !r.demand(form, e.At) {
		return api.Expr{}, ""
	}
	checked := api.Expr{Kind: e.Kind, At: e.At}
	var texts []string
	checked.Kids, texts = r.values(e.Kids)
	var rule string
	switch e.Kind {
	case api.EInt, api.EBool:
		checked.N, rule = e.N, pattern(e.Kind)
	case api.ENull, api.ENew, api.EMake:
		checked.Of, rule = e.Of, r.ofRule(e)
	case api.EVar:
		checked.Name = e.Name
		checked.Ref, rule = r.variable(e.Name)
	case api.EField, api.ECall:
		checked.Name = e.Name
		checked.Ref, rule = r.memberRule(e, texts)
	default:
		rule = pattern(e.Kind)
	}
	text, ok := match(rule, texts)
	r.demand(ok, e.At)
	if text == "-" {
		text = ""
	}
	checked.Type = r.typeOf(text)
	return checked, text
}

// ofRule is the pattern of an expression with an Of.
func (r *reference) ofRule(e api.Expr) string {
	text := show.Type(e.Of)
	isRef := text != "int" && text != "bool"
	switch {
	case !r.exists(e.Of):
		return ""
	case e.Kind == api.ENull && isRef:
		return text
	case e.Kind == api.ENew && isRef && e.Of.Dims == 0:
		return text
	case e.Kind == api.EMake && e.Of.Dims < api.MaxDims:
		return "int [" + text + "]"
	}
	return ""
}

// memberRule is the pattern of a field of what the Kid is, or of a call, of which `-` is the type if it has no value.
func (r *reference) memberRule(e api.Expr, texts []string) (int, string) {
	if e.Kind == api.EField {
		for _, rec := range r.p.Recs {
			i := slices.IndexFunc(rec.Fields, func(f api.Param) bool { return f.Name == e.Name })
			if texts[0] == rec.Name && rec.Name != "int" && rec.Name != "bool" && i >= 0 {
				return i, rec.Name + " " + show.Type(rec.Fields[i].Of)
			}
		}
		return 0, ""
	}
	i := slices.IndexFunc(r.p.Funcs, func(f api.Func) bool { return f.Name == e.Name })
	if i < 0 {
		return 0, ""
	}
	f := r.p.Funcs[i]
	rule := ""
	for _, param := range f.Params {
		rule += show.Type(param.Of) + " "
	}
	if f.Has {
		return i, rule + show.Type(f.Result)
	}
	return i, rule + "-"
}

func (r *reference) values(list []api.Expr) ([]api.Expr, []string) {
	var checked []api.Expr
	var texts []string
	for _, e := range list {
		one, text := r.expr(e)
		r.demand(text != "", e.At)
		checked, texts = append(checked, one), append(texts, text)
	}
	return checked, texts
}

// stmtForm is what is demanded of a statement ahead of its Es.
func (r *reference) stmtForm(s api.Stmt) bool {
	if s.Kind < api.SVar || s.Kind > api.SDo || len(s.Es) != exprCount(s.Kind, r.has) {
		return false
	}
	switch s.Kind {
	case api.SVar, api.SLet:
		return r.exists(s.Of)
	case api.SPut:
		return s.Es[0].Kind == api.EField || s.Es[0].Kind == api.EItem
	case api.SDo:
		return s.Es[0].Kind == api.ECall
	}
	return true
}

func (r *reference) stmt(s api.Stmt) api.Stmt {
	checked := api.Stmt{Kind: s.Kind, At: s.At}
	if !r.demand(r.stmtForm(s), s.At) {
		return checked
	}
	var texts []string
	if s.Kind == api.SDo {
		call, _ := r.expr(s.Es[0])
		checked.Es = []api.Expr{call}
	} else {
		checked.Es, texts = r.values(s.Es)
	}
	switch s.Kind {
	case api.SVar, api.SLet:
		checked.Name, checked.Of, checked.Ref = s.Name, s.Of, len(r.locals)
		r.demand(s.Kind == api.SVar || texts[0] == show.Type(s.Of), s.At)
		r.demand(!slices.ContainsFunc(r.locals, func(l local) bool { return l.name == s.Name }), s.At)
		r.locals = append(r.locals, local{s.Name, show.Type(s.Of)})
	case api.SSet:
		var of string
		checked.Name = s.Name
		checked.Ref, of = r.variable(s.Name)
		r.demand(of != "" && texts[0] == of, s.At)
	case api.SPut:
		r.demand(texts[0] == texts[1], s.At)
	case api.SIf:
		r.demand(texts[0] == "bool", s.At)
		checked.Body = r.block(s.Body)
		checked.Else = r.block(s.Else)
	case api.SWhile:
		r.demand(texts[0] == "bool", s.At)
		checked.Body = r.block(s.Body)
	case api.SRet:
		r.demand(!r.has || texts[0] == r.result, s.At)
	case api.SPrint:
		r.demand(texts[0] == "int", s.At)
	}
	return checked
}

func (r *reference) block(list []api.Stmt) []api.Stmt {
	var checked []api.Stmt
	for _, s := range list {
		checked = append(checked, r.stmt(s))
	}
	return checked
}

func (r *reference) body(f api.Func) api.Body {
	r.locals, r.has, r.result = nil, f.Has, show.Type(f.Result)
	for _, param := range f.Params {
		r.locals = append(r.locals, local{param.Name, show.Type(param.Of)})
	}
	b := api.Body{Code: r.block(f.Body), At: f.At}
	for _, l := range r.locals {
		b.Vars = append(b.Vars, api.Field{Name: l.name, Type: r.typeOf(l.of)})
	}
	return b
}

// expected is what chapter 8 says of a program: its result, or its first fault.
func expected(p api.Prog) (api.Typed, api.Fault) {
	h, fault := heads.Make(p)
	if fault.E != api.OK {
		return api.Typed{}, fault
	}
	r := reference{p: p}
	want := api.Typed{Heads: h}
	for _, f := range p.Funcs {
		want.Bodies = append(want.Bodies, r.body(f))
		if i := slices.IndexFunc(r.demands, func(d demand) bool { return !d.holds }); i >= 0 {
			return api.Typed{}, api.Fault{E: api.ErrType, At: r.demands[i].at}
		}
	}
	return want, api.Fault{}
}
