package heads_test

import (
	"math/rand"
	"slices"
	"strconv"
	"testing"

	"runrig/api"
	"runrig/heads"
)

// This file holds Make against the demands of P7.2, written one by one in their order, on programs that are made at random: first
// correct ones, then up to a few changes to them.

// demand is what must hold, and where else a fault is told.
type demand struct {
	holds bool
	at    int
}

func exists(p api.Prog, o api.Of) bool {
	_, ok := heads.Type(recordNames(p), o)
	return ok
}

func recordNames(p api.Prog) []string {
	var names []string
	for _, r := range p.Recs {
		names = append(names, r.Name)
	}
	return names
}

func demandsOfParams(p api.Prog, list []api.Param) []demand {
	var demands []demand
	for i, item := range list {
		demands = append(demands, demand{!slices.ContainsFunc(list[:i], func(earlier api.Param) bool { return earlier.Name == item.Name }), item.At})
		demands = append(demands, demand{exists(p, item.Of), item.At})
	}
	return demands
}

// demandsOf are all demands of a program, in the order of the document.
func demandsOf(p api.Prog) []demand {
	var demands []demand
	for i, r := range p.Recs {
		demands = append(demands, demand{!slices.ContainsFunc(p.Recs[:i], func(earlier api.Rec) bool { return earlier.Name == r.Name }), r.At})
	}
	for _, r := range p.Recs {
		demands = append(demands, demandsOfParams(p, r.Fields)...)
	}
	demands = append(demands, demandsOfParams(p, p.Globals)...)
	for i, f := range p.Funcs {
		demands = append(demands, demand{!slices.ContainsFunc(p.Funcs[:i], func(earlier api.Func) bool { return earlier.Name == f.Name }), f.At})
		demands = append(demands, demandsOfParams(p, f.Params)...)
		demands = append(demands, demand{!f.Has || exists(p, f.Result), f.At})
	}
	return append(demands, demand{slices.ContainsFunc(p.Funcs, begins), 0})
}

func begins(f api.Func) bool { return f.Name == "main" && len(f.Params) == 0 && !f.Has }

// known are the declarations of a correct program.
func known(p api.Prog) api.Heads {
	typeOf := func(o api.Of) api.Type {
		t, _ := heads.Type(recordNames(p), o)
		return t
	}
	fields := func(list []api.Param) []api.Field {
		var fields []api.Field
		for _, item := range list {
			fields = append(fields, field(item.Name, typeOf(item.Of)))
		}
		return fields
	}
	h := api.Heads{Globals: fields(p.Globals), Main: slices.IndexFunc(p.Funcs, begins)}
	for _, r := range p.Recs {
		h.Recs = append(h.Recs, shape(r.Name, fields(r.Fields)...))
	}
	for _, f := range p.Funcs {
		s := api.Sig{Name: f.Name, Params: fields(f.Params), Has: f.Has}
		if f.Has {
			s.Result = typeOf(f.Result)
		}
		h.Sigs = append(h.Sigs, s)
	}
	return h
}

// maker makes programs at random.
type maker struct {
	*rand.Rand
	records []string
	at      int
}

// place is a place of its own for each item; the later items do not always have the later ones.
func (m *maker) place() int {
	m.at++
	return m.at * (1 - 2*m.Intn(2))
}

// names are up to so many different ones.
func (m *maker) names(most int) []string {
	pool := []string{"a", "b", "A", "B", "aa", "int", "bool", "main", "", "f", "R"}
	m.Shuffle(len(pool), func(i, j int) { pool[i], pool[j] = pool[j], pool[i] })
	return pool[:m.Intn(min(most, len(pool))+1)]
}

func (m *maker) of() api.Of {
	names := append([]string{"int", "bool"}, m.records...)
	return api.Of{Name: names[m.Intn(len(names))], Dims: m.Intn(api.MaxDims + 1)}
}

func (m *maker) params(most int) []api.Param {
	var list []api.Param
	for _, name := range m.names(most) {
		list = append(list, api.Param{Name: name, Of: m.of(), At: m.place()})
	}
	return list
}

func (m *maker) program() api.Prog {
	m.records = m.names(6)
	p := api.Prog{Globals: m.params(5)}
	for _, name := range m.records {
		p.Recs = append(p.Recs, api.Rec{Name: name, Fields: m.params(4), At: m.place()})
	}
	for _, name := range slices.DeleteFunc(m.names(5), func(name string) bool { return name == "main" }) {
		p.Funcs = append(p.Funcs, api.Func{Name: name, Params: m.params(4), Has: m.Intn(2) == 0, Result: m.of(), At: m.place()})
	}
	p.Funcs = slices.Insert(p.Funcs, m.Intn(len(p.Funcs)+1), api.Func{Name: "main", At: m.place()})
	return p
}

// damage changes one thing somewhere, after which the program may still be correct.
func (m *maker) damage(p *api.Prog) {
	lists := []*[]api.Param{&p.Globals}
	for i := range p.Recs {
		lists = append(lists, &p.Recs[i].Fields)
	}
	for i := range p.Funcs {
		lists = append(lists, &p.Funcs[i].Params)
	}
	f := &p.Funcs[m.Intn(len(p.Funcs))]
	switch m.Intn(6) {
	case 0:
		f.Name = p.Funcs[m.Intn(len(p.Funcs))].Name
	case 1:
		f.Has, f.Result = m.Intn(4) > 0, m.strangeOf()
	case 2:
		if len(p.Recs) > 0 {
			p.Recs[m.Intn(len(p.Recs))].Name = p.Recs[m.Intn(len(p.Recs))].Name
		}
	default:
		m.damageParams(lists[m.Intn(len(lists))])
	}
}

func (m *maker) damageParams(list *[]api.Param) {
	item := api.Param{Name: strconv.Itoa(m.at), Of: m.of(), At: m.place()}
	switch {
	case m.Intn(2) == 0:
		item.Of = m.strangeOf()
	case len(*list) > 0:
		item.Name = (*list)[m.Intn(len(*list))].Name
	}
	*list = slices.Insert(*list, m.Intn(len(*list)+1), item)
}

// strangeOf is mostly a type that does not exist.
func (m *maker) strangeOf() api.Of {
	list := []api.Of{{}, {Name: "X"}, {Name: "r", Dims: 1}, {Name: "int", Dims: -1}, {Name: "bool", Dims: api.MaxDims + 1}, {Name: "B"}, {Name: "A", Dims: -2}, {Name: "Int"}}
	return list[m.Intn(len(list))]
}

// programs are so many at random, each with its number of changes.
func programs(count int, do func(p api.Prog)) {
	m := maker{Rand: rand.New(rand.NewSource(7))}
	for range count {
		p := m.program()
		for range m.Intn(4) {
			m.damage(&p)
		}
		do(p)
	}
}

// P7.2: what the demands say, and where the first one of them that does not hold is told.
func TestDemands(t *testing.T) {
	correct, refused := 0, 0
	programs(20000, func(p api.Prog) {
		demands := demandsOf(p)
		first := slices.IndexFunc(demands, func(d demand) bool { return !d.holds })
		if first < 0 {
			correct++
			checkMade(t, p, known(p))
		} else {
			refused++
			checkRefused(t, p, demands[first].at)
		}
	})
	if correct < 5000 || refused < 5000 {
		t.Errorf("only %d correct programs, and %d others", correct, refused)
	}
}

// reordered is a program with its records in another order, and what number each of them has then.
func reordered(p api.Prog, order []int) (api.Prog, []int) {
	moved, numbers := p, make([]int, len(order))
	moved.Recs = make([]api.Rec, len(order))
	for i, from := range order {
		moved.Recs[i], numbers[from] = p.Recs[from], i
	}
	return moved, numbers
}

// renumbered are declarations in which the records have other numbers.
func renumbered(h api.Heads, numbers []int) api.Heads {
	typeOf := func(t api.Type) api.Type {
		if t.Base == api.TRec {
			t.Rec = numbers[t.Rec]
		}
		return t
	}
	fields := func(list []api.Field) []api.Field {
		var moved []api.Field
		for _, f := range list {
			moved = append(moved, field(f.Name, typeOf(f.Type)))
		}
		return moved
	}
	moved := api.Heads{Recs: make([]api.Shape, len(h.Recs)), Globals: fields(h.Globals), Main: h.Main}
	for i, s := range h.Recs {
		moved.Recs[numbers[i]] = shape(s.Name, fields(s.Fields)...)
	}
	for _, s := range h.Sigs {
		moved.Sigs = append(moved.Sigs, api.Sig{Name: s.Name, Params: fields(s.Params), Has: s.Has, Result: typeOf(s.Result)})
	}
	return moved
}

// P7.3: in another order of the records the same programs are correct, and only the numbers of the records differ.
func TestOrderOfRecords(t *testing.T) {
	r := rand.New(rand.NewSource(8))
	compared := 0
	programs(20000, func(p api.Prog) {
		moved, numbers := reordered(p, r.Perm(len(p.Recs)))
		want, fault := heads.Make(p)
		got, faultThen := heads.Make(moved)
		if fault.E != faultThen.E {
			t.Errorf("Make(%+v) tells %v, Make(%+v) %v", p, fault, moved, faultThen)
		}
		if fault.E == api.OK {
			compared++
			if !equalHeads(got, renumbered(want, numbers)) {
				t.Errorf("Make(%+v) = %+v, Make(%+v) = %+v", p, want, moved, got)
			}
		}
	})
	if compared < 5000 {
		t.Errorf("only %d correct programs", compared)
	}
}

// P7.3: each order of the records of one text.
func TestEachOrderOfRecords(t *testing.T) {
	p := parsed(t, "record A{a:B;b:[C];c:int;}record B{a:A;}record C{a:[[B]];b:C;}global g:C;global h:[A];func main(){}func f(a:B,b:bool):[C]{}")
	want, fault := heads.Make(p)
	if fault != (api.Fault{}) {
		t.Fatal(fault)
	}
	for _, order := range [][]int{{0, 1, 2}, {0, 2, 1}, {1, 0, 2}, {1, 2, 0}, {2, 0, 1}, {2, 1, 0}} {
		moved, numbers := reordered(p, order)
		checkMade(t, moved, renumbered(want, numbers))
	}
}
