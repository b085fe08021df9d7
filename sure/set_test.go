package sure

import (
	"math/rand"
	"testing"
)

// model is a set in another way.
type model map[int]bool

func (m model) changed(number int, has bool) model {
	changed := model{number: has}
	for n, has := range m {
		if n != number {
			changed[n] = has
		}
	}
	return changed
}

func both(a, b model) model {
	common := model{}
	for n := range a {
		common[n] = a[n] && b[n]
	}
	return common
}

func checkSet(t *testing.T, s set, m model, width int) {
	t.Helper()
	count := 0
	for n := range 1 << width {
		if s.has(n, width) != m[n] {
			t.Fatalf("a set of the width %d has %d: %v", width, n, !m[n])
		}
		if m[n] {
			count++
		}
	}
	if (s == set{}) != (count == 0) || (s == everything()) != (count == 1<<width) {
		t.Fatalf("a set of %d of the numbers of %d bits is not as short as it can be", count, width)
	}
}

// P9.1: what is known of the locals at any place stays as it is while other sets are made of it.
func TestSets(t *testing.T) {
	r := rand.New(rand.NewSource(1))
	for round := range 2000 {
		width := round % 6
		full := model{}
		for n := range 1 << width {
			full[n] = true
		}
		sets, models := []set{{}, everything()}, []model{{}, full}
		for n := range 1 << width {
			models[0][n] = false
		}
		for range 60 {
			i, j, k, number := r.Intn(len(sets)), r.Intn(len(sets)), r.Intn(len(sets)), r.Intn(1<<width)
			switch r.Intn(3) {
			case 0:
				sets, models = append(sets, sets[i].with(number, width)), append(models, models[i].changed(number, true))
			case 1:
				sets, models = append(sets, sets[i].without(number, width)), append(models, models[i].changed(number, false))
			default:
				sets, models = append(sets, meet(sets[i], sets[j], sets[k])), append(models, both(models[i], models[j]))
			}
		}
		for i := range sets {
			checkSet(t, sets[i], models[i], width)
		}
	}
}

// W1: sets that have much in common share it, so that a meeting goes only through what is not.
func TestSetsShareTheirParts(t *testing.T) {
	const width = 16
	var s set
	for n := 0; n < 1<<width; n += 3 {
		s = s.with(n, width)
	}
	without, with := s.without(3, width), s.with(4, width)
	if s.with(3, width) != s || s.without(4, width) != s || meet(s, with, s) != s || meet(without, s, s) != without || meet(with, s.with(5, width), s) != s {
		t.Error("a set that does not change is made anew")
	}
	if pieces := testing.AllocsPerRun(100, func() { meet(with, s.without(60000, width), s) }); pieces > 3*width {
		t.Errorf("a meeting takes %v pieces of memory", pieces)
	}
}
