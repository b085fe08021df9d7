package sure

// set is a set of numbers of some number of bits, its width: the zero set has none of them. It never changes, and a set that
// is made from it shares all parts that are equal: each branch needs a set of its own, and copies of the whole would cost the
// product of the branches and the locals, in memory too where branches are nested.
type set struct {
	all    bool    // where there are no halves: whether it has all numbers or none
	halves *[2]set // the numbers by their highest bit, which the halves do not regard
}

// everything is the set of all numbers, of any width.
func everything() set { return set{all: true} }

func (s set) has(number, width int) bool {
	for s.halves != nil {
		width--
		s = s.halves[halfOf(number, width)]
	}
	return s.all
}

func (s set) with(number, width int) set { return s.changed(number, width, everything()) }

func (s set) without(number, width int) set { return s.changed(number, width, set{}) }

// changed is the set with another part, all or none, in the place of a number.
func (s set) changed(number, width int, part set) set {
	if s == part || width == 0 {
		return part
	}
	width--
	halves := s.split()
	i := halfOf(number, width)
	changed := halves[i].changed(number, width, part)
	if changed == halves[i] {
		return s
	}
	halves[i] = changed
	return joined(halves)
}

// meet is what two sets of one width have in common that are made from the set before. Where this is what was there before,
// the meeting leaves no trace: nobody further out goes through those parts again.
func meet(a, b, before set) set {
	switch {
	case a == b || a == set{} || b == everything():
		return a
	case b == set{} || a == everything():
		return b
	}
	ofA, ofB, ofBefore := a.split(), b.split(), before.split()
	common := [2]set{meet(ofA[0], ofB[0], ofBefore[0]), meet(ofA[1], ofB[1], ofBefore[1])}
	switch common {
	case ofBefore:
		return before
	case ofA:
		return a
	case ofB:
		return b
	}
	return joined(common)
}

func (s set) split() [2]set {
	if s.halves == nil {
		return [2]set{s, s}
	}
	return *s.halves
}

// joined is a set of these halves. All or none of the numbers is never told by halves, so that it is seen at once.
func joined(halves [2]set) set {
	if halves[0] == halves[1] && halves[0].halves == nil {
		return halves[0]
	}
	return set{halves: &halves}
}

// halfOf is the half in which a number lies, where so many of its bits are below the one that tells.
func halfOf(number, below int) int { return number >> below & 1 }
