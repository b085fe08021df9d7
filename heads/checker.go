package heads

import (
	"strings"

	"runrig/api"
)

// names are the names that are declared so far in one list of declarations, each with its index. A list of any length may
// come in: going through it anew for each of its names would cost the square of its length.
type names map[string]int

func (n names) find(name string) (int, bool) {
	i, ok := n[name]
	return i, ok
}

// checker checks declarations in the order of the document, and keeps the first fault. It goes on behind a fault, because
// what it makes from there on is given up.
type checker struct {
	records names
	fault   api.Fault
}

func (c *checker) program(p api.Prog) api.Heads {
	var h api.Heads
	// A field may be of the type of any record: all of them must be known ahead of the first field.
	for i, r := range p.Recs {
		c.declare(c.records, r.Name, i, r.At)
	}
	for _, r := range p.Recs {
		h.Recs = append(h.Recs, api.Shape{Name: strings.Clone(r.Name), Fields: c.fields(r.Fields)})
	}
	h.Globals = c.fields(p.Globals)
	functions := names{}
	for i, f := range p.Funcs {
		c.declare(functions, f.Name, i, f.At)
		h.Sigs = append(h.Sigs, c.sig(f))
	}
	h.Main = c.mainIndex(p.Funcs, functions)
	return h
}

// fields are declarations, of which no two have one name.
func (c *checker) fields(list []api.Param) []api.Field {
	var fields []api.Field
	declared := names{}
	for i, p := range list {
		c.declare(declared, p.Name, i, p.At)
		fields = append(fields, api.Field{Name: strings.Clone(p.Name), Type: c.typeOf(p.Of, p.At)})
	}
	return fields
}

func (c *checker) sig(f api.Func) api.Sig {
	s := api.Sig{Name: strings.Clone(f.Name), Params: c.fields(f.Params), Has: f.Has}
	// The Result of a function that has none means nothing, whatever it contains.
	if f.Has {
		s.Result = c.typeOf(f.Result, f.At)
	}
	return s
}

// mainIndex is the index of the function with which a run begins: nothing can be handed to it, nor taken from it.
func (c *checker) mainIndex(list []api.Func, functions names) int {
	i, ok := functions.find("main")
	if !ok || len(list[i].Params) > 0 || list[i].Has {
		c.refuse(0)
	}
	return i
}

// declare adds the name of the item at an index, which no earlier item may have.
func (c *checker) declare(declared names, name string, index, at int) {
	if _, twice := declared.find(name); twice {
		c.refuse(at)
		return
	}
	declared[name] = index
}

// typeOf is the type that is written in the item at this place.
func (c *checker) typeOf(o api.Of, at int) api.Type {
	t, ok := resolve(o, c.records.find)
	if !ok {
		c.refuse(at)
	}
	return t
}

// refuse says that the item at this place is at fault, unless there was a fault before.
func (c *checker) refuse(at int) {
	if c.fault.E == api.OK {
		c.fault = api.Fault{E: api.ErrType, At: at}
	}
}
