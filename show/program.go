package show

import (
	"strings"

	"runrig/api"
)

func (w *writer) program(p api.Prog) {
	for _, r := range p.Recs {
		w.record(r)
	}
	for _, g := range p.Globals {
		w.line("global ", declared(g), ";")
	}
	for _, f := range p.Funcs {
		w.function(f)
	}
}

func (w *writer) record(r api.Rec) {
	w.line("record ", r.Name, " {")
	w.blocks++
	for _, field := range r.Fields {
		w.line(declared(field), ";")
	}
	w.blocks--
	w.line("}")
}

func (w *writer) function(f api.Func) {
	params := make([]string, len(f.Params))
	for i, param := range f.Params {
		params[i] = declared(param)
	}
	result := ""
	if f.Has {
		result = ": " + Type(f.Result)
	}
	w.line("func ", f.Name, "(", strings.Join(params, ", "), ")", result, " {")
	w.block(f.Body)
	w.line("}")
}

// declared is a name with its type.
func declared(p api.Param) string { return p.Name + ": " + Type(p.Of) }

// block adds the lines of statements that stand in a block.
func (w *writer) block(list []api.Stmt) {
	w.blocks++
	for i := range list {
		w.statement(&list[i])
	}
	w.blocks--
}

// statement adds the lines of a statement; none for a kind that does not exist.
func (w *writer) statement(s *api.Stmt) {
	switch s.Kind {
	case api.SVar:
		w.line("var ", s.Name, ": ", Type(s.Of), ";")
	case api.SLet:
		w.line("let ", s.Name, ": ", Type(s.Of), " = ", textOf(s, 0), ";")
	case api.SSet:
		w.line(s.Name, " = ", textOf(s, 0), ";")
	case api.SPut:
		w.line(textOf(s, 0), " = ", textOf(s, 1), ";")
	case api.SIf:
		w.choice(s)
	case api.SWhile:
		w.line("while ", textOf(s, 0), " {")
		w.block(s.Body)
		w.line("}")
	case api.SRet:
		w.result(s)
	case api.SPrint:
		w.line("print ", textOf(s, 0), ";")
	case api.SDo:
		w.line(textOf(s, 0), ";")
	}
}

func (w *writer) choice(s *api.Stmt) {
	w.line("if ", textOf(s, 0), " {")
	w.block(s.Body)
	if len(s.Else) > 0 {
		w.line("} else {")
		w.block(s.Else)
	}
	w.line("}")
}

func (w *writer) result(s *api.Stmt) {
	if len(s.Es) == 0 {
		w.line("return;")
	} else {
		w.line("return ", textOf(s, 0), ";")
	}
}

// textOf is the text of one of the expressions of a statement; none for one that is missing.
func textOf(s *api.Stmt, n int) string {
	if n >= len(s.Es) {
		return ""
	}
	return Expr(s.Es[n])
}

// line adds a line, indented by the blocks that enclose it. No statement of a text stands in more than MaxDeep blocks: of
// one that does only so many count, because else the text would grow with the square of the depth.
func (w *writer) line(texts ...string) {
	w.add(strings.Repeat("  ", min(w.blocks, api.MaxDeep)))
	w.add(texts...)
	w.add("\n")
}
