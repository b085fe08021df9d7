package typed

import (
	"slices"

	"runrig/api"
	"runrig/heads"
)

// names are the indices of the items of a list by their names. Lists of any length may come in: going through one anew for
// each name that is mentioned in a body would cost the product of both lengths.
type names map[string]int

func namesOf[T any](list []T, nameOf func(item T) string) names {
	n := make(names, len(list))
	for i, item := range list {
		n[nameOf(item)] = i
	}
	return n
}

func fieldNames(list []api.Field) names {
	return namesOf(list, func(f api.Field) string { return f.Name })
}

// declarations are what is known ahead of all bodies.
type declarations struct {
	known                       api.Heads
	records, globals, functions names
	fields                      []names
}

func newDeclarations(h api.Heads) declarations {
	d := declarations{
		known:     h,
		records:   namesOf(h.Recs, func(r api.Shape) string { return r.Name }),
		globals:   fieldNames(h.Globals),
		functions: namesOf(h.Sigs, func(s api.Sig) string { return s.Name }),
	}
	for _, r := range h.Recs {
		d.fields = append(d.fields, fieldNames(r.Fields))
	}
	return d
}

// typeOf is a written type; the zero Type if it does not exist. Of all records heads.Type is shown only the one that can be
// meant, because it goes through all that it is shown.
func (d *declarations) typeOf(o api.Of) (api.Type, bool) {
	rec, ok := d.records[o.Name]
	if !ok {
		return heads.Type(nil, o)
	}
	t, ok := heads.Type([]string{o.Name}, o)
	// A record may be named like int or bool, but then its name denotes another type.
	if t.Base == api.TRec {
		t.Rec = rec
	}
	return t, ok
}

// scope is what is known at one point of a body.
type scope struct {
	*declarations
	sig    api.Sig
	vars   []api.Field
	locals names
}

func newScope(d *declarations, sig api.Sig) scope {
	return scope{declarations: d, sig: sig, vars: slices.Clone(sig.Params), locals: fieldNames(sig.Params)}
}

// variable is what a name denotes here: its Ref and its type.
func (s *scope) variable(name string) (int, api.Type, bool) {
	if i, ok := s.locals[name]; ok {
		return i, s.vars[i].Type, true
	}
	if i, ok := s.globals[name]; ok {
		return -1 - i, s.known.Globals[i].Type, true
	}
	return 0, api.Type{}, false
}

// add declares a local from here to the end of the body, and returns its number; false if its name is taken.
func (s *scope) add(name string, t api.Type) (int, bool) {
	if _, taken := s.locals[name]; taken {
		return 0, false
	}
	number := len(s.vars)
	s.vars = append(s.vars, api.Field{Name: name, Type: t})
	s.locals[name] = number
	return number, true
}
