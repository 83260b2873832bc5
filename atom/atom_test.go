package atom_test

import (
	"math"
	"slices"
	"testing"

	"caesura/api"
	"caesura/atom"
)

// set: pairs of numbers, as ranges.
func set(n ...int) []api.Range {
	var l []api.Range
	for i := 0; i < len(n); i += 2 {
		l = append(l, api.Range{Low: n[i], High: n[i+1]})
	}
	return l
}

// sets: several, as a list.
func sets(l ...[]api.Range) [][]api.Range { return l }

// every: n ranges of one character each, every second one from the first on.
func every(first, n int) []api.Range {
	var l []api.Range
	for i := range n {
		l = append(l, api.Range{Low: first + 2*i, High: first + 2*i})
	}
	return l
}

// bits: as many sets as a number has bits, that tell the characters 1 to n apart, from one another and from all others.
func bits(n int) [][]api.Range {
	var all [][]api.Range
	for bit := range 8 {
		var l []api.Range
		for c := 1; c <= n; c++ {
			if c>>bit&1 == 1 {
				l = append(l, set(c, c)...)
			}
		}
		all = append(all, l)
	}
	return all
}

// has: the words of the document for it: nothing of a list that is too long, characters alone.
func has(l []api.Range, c int) bool {
	if len(l) > 400 || c < 0 || c > 0x10ffff {
		return false
	}
	for _, r := range l {
		if r.Low <= c && c <= r.High {
			return true
		}
	}
	return false
}

// least: the words of the document for 'as it is least'.
func least(l []api.Range) bool {
	for i, r := range l {
		if r.Low < 0 || r.High > 0x10ffff || r.Low > r.High {
			return false
		}
		if i > 0 && (r.Low <= l[i-1].High || r.Low-l[i-1].High < 2) {
			return false
		}
	}
	return len(l) <= 400
}

// probes: characters at which one of the lists may change, those beside them, and the ends: of each stretch in which none changes at least one.
func probes(lists [][]api.Range) []int {
	all := []int{0, 1, api.Top - 1, api.Top}
	for _, l := range lists {
		for _, r := range l {
			for _, c := range []int{r.Low, r.High} {
				if c > 0 && c < api.Top {
					all = append(all, c-1, c, c+1)
				}
			}
		}
	}
	slices.Sort(all)
	return slices.Compact(all)
}

// first: the least character of a list, of those at which it may change; -1 of none.
func first(l []api.Range) int {
	for _, c := range probes(sets(l)) {
		if has(l, c) {
			return c
		}
	}
	return -1
}

// owners: which of the sets have a character, as a text of signs.
func owners(l [][]api.Range, c int) string {
	text := make([]byte, len(l))
	for i, x := range l {
		text[i] = '-'
		if has(x, c) {
			text[i] = '+'
		}
	}
	return string(text)
}

// parted: the atoms' characters among places, by the words of the document: those with the same owners together, in the order of the least ones.
func parted(l [][]api.Range, places []int) [][]int {
	numbers := map[string]int{}
	var all [][]int
	for _, c := range places {
		who := owners(l, c)
		n, known := numbers[who]
		if !known {
			n = len(all)
			numbers[who] = n
			all = append(all, nil)
		}
		all[n] = append(all[n], c)
	}
	return all
}

// checkOf: what Of answers of sets that it takes, against the document's words. It tells the atoms.
func checkOf(t *testing.T, l [][]api.Range) [][]api.Range {
	t.Helper()
	atoms, e := atom.Of(l)
	if e != api.OK {
		t.Fatalf("%v: %d", l, e)
	}
	places := probes(slices.Concat(l, atoms))
	want := parted(l, places)
	if len(atoms) != len(want) {
		t.Fatalf("%v: %d atoms, not %d", l, len(atoms), len(want))
	}
	for n, a := range atoms {
		if len(a) == 0 || !least(a) {
			t.Errorf("%v: atom %d, %v, isn't least, or empty", l, n, a)
		}
		var got []int
		for _, c := range places {
			if has(a, c) {
				got = append(got, c)
			}
		}
		if !slices.Equal(got, want[n]) {
			t.Errorf("%v: atom %d has %v, not %v", l, n, got, want[n])
		}
		if a[0].Low != want[n][0] {
			t.Errorf("%v: atom %d begins at %d", l, n, a[0].Low)
		}
	}
	if !atom.Right(atoms) {
		t.Errorf("%v: %v aren't right", l, atoms)
	}
	return atoms
}

// checkWithin: P2.2, each set is just the atoms within it, no atom is parted.
func checkWithin(t *testing.T, l, atoms [][]api.Range) {
	t.Helper()
	places := probes(slices.Concat(l, atoms))
	for _, x := range l {
		within := atom.Within(atoms, x)
		for _, c := range places {
			n := atom.Class(atoms, c)
			if n < 0 || !has(atoms[n], c) {
				t.Fatalf("%v: Class of %d is %d", l, c, n)
			}
			if slices.Contains(within, n) != has(x, c) {
				t.Errorf("%v: atom %d, of %d, within %v", l, n, c, x)
			}
		}
	}
}

// families: sets that Of takes: ordinary ones, the edges, and wrong ones.
func families() [][][]api.Range {
	return [][][]api.Range{
		nil, {}, {nil}, {{}}, {nil, nil, set(5, 4)},
		{set(0, api.Top)}, {set(0, 0)}, {set(api.Top, api.Top)}, {set(0, 0, api.Top, api.Top)}, {set(1, api.Top-1)},
		{set(0, 0), set(api.Top, api.Top)}, {set(0, 0), set(0, 0)}, {set(0, 5), set(6, api.Top)}, {set(0, 5), set(3, 9)},
		{set('a', 'c'), set('b', 'b')}, {set('b', 'b'), set('a', 'c')}, {set(1, 3, 4, 5)}, {set(4, 5, 1, 3)}, {set(1, 3), set(4, 5), set(1, 5)},
		{set(1, 9), set(5, 5), set(5, 5, 1, 9)}, {set(1, 9, 3, 12, 3, 3)}, {set(1, 1, 3, 3, 5, 5), set(2, 2, 4, 4)},
		{set(9, 3)}, {set(9, 3), set(3, 9)}, {set(math.MaxInt, math.MinInt)}, {set(math.MinInt, math.MaxInt)},
		{set(-5, 2), set(api.Top-2, api.Top+7)}, {set(-5, -1), set(api.Top+1, api.Top+1)}, {set(math.MinInt, 3), set(4, math.MaxInt)},
		{set(math.MinInt, math.MinInt, 7, 7, math.MaxInt, math.MaxInt)}, {set(-1, 0, api.Top, api.Top+1)},
		{every(0, 400)}, {every(1, 399)}, {every(0, 400), every(0, 400)}, {every(0, 200), every(1, 200)}, {every(api.Top-798, 400)},
		{slices.Repeat(set(7, 7), 400)}, {slices.Repeat(set(2, 1), 400), set(1, 2)}, {slices.Concat(slices.Repeat(set(2, 1), 399), set(3, 4))},
		bits(60), bits(199), slices.Repeat(sets(every(0, 400)), 60), slices.Repeat(sets(nil), 60),
	}
}

// small: sets made of a number, of ranges near the ends of all characters, some wrong.
func small(seed uint32) [][]api.Range {
	next := func(n uint32) int {
		seed = seed*1664525 + 1013904223
		return int((seed >> 16) % n)
	}
	var all [][]api.Range
	for range next(6) {
		var l []api.Range
		base := []int{0, api.Top - 10}[next(2)]
		for range next(5) {
			low := base + next(14) - 2
			l = append(l, api.Range{Low: low, High: low + next(6) - 1})
		}
		all = append(all, l)
	}
	return all
}

// P2.1 and P2.2, on the sets that the document's edges make.
func TestAtomsAreAsSaid(t *testing.T) {
	for _, l := range families() {
		checkWithin(t, l, checkOf(t, l))
	}
}

// P2.1 and P2.2, on many small sets.
func TestAtomsOfSmallSets(t *testing.T) {
	for seed := range uint32(3000) {
		l := small(seed)
		checkWithin(t, l, checkOf(t, l))
	}
}

// P2.1: answers of Of written out by hand, so that no fault of the checks above hides one.
func TestOfWrittenOut(t *testing.T) {
	all := set(0, api.Top)
	for i, x := range []struct{ sets, want [][]api.Range }{
		{nil, sets(all)},
		{sets(nil), sets(all)},
		{sets(set(5, 4), set(-3, -1), set(api.Top+1, math.MaxInt)), sets(all)},
		{sets(all), sets(all)},
		{sets(set(math.MinInt, math.MaxInt), nil), sets(all)},
		{sets(set('a', 'c'), set('b', 'b')), sets(set(0, 'a'-1, 'c'+1, api.Top), set('a', 'a', 'c', 'c'), set('b', 'b'))},
		{sets(set(0, 0)), sets(set(0, 0), set(1, api.Top))},
		{sets(set(api.Top, api.Top)), sets(set(0, api.Top-1), set(api.Top, api.Top))},
		{sets(set(0, 0, api.Top, api.Top)), sets(set(0, 0, api.Top, api.Top), set(1, api.Top-1))},
		{sets(set(-9, 2), set(api.Top-1, api.Top+9)), sets(set(0, 2), set(3, api.Top-2), set(api.Top-1, api.Top))},
		{sets(set(1, 3, 4, 5)), sets(set(0, 0, 6, api.Top), set(1, 5))},
		{sets(set(4, 5, 1, 3, 2, 1)), sets(set(0, 0, 6, api.Top), set(1, 5))},
		{sets(set(10, 20), set(12, 12, 30, 30)), sets(set(0, 9, 21, 29, 31, api.Top), set(10, 11, 13, 20), set(12, 12), set(30, 30))},
	} {
		got, e := atom.Of(x.sets)
		if e != api.OK || !slices.EqualFunc(got, x.want, slices.Equal) {
			t.Errorf("%d: %v %d, not %v", i, got, e, x.want)
		}
	}
}

// P2.1: how sets stand, and how often, says nothing.
func TestOrderOfSetsSaysNothing(t *testing.T) {
	for seed := range uint32(500) {
		l := small(seed*3 + 1)
		want, _ := atom.Of(l)
		turned := slices.Concat(l, sets(nil), l)
		slices.Reverse(turned)
		if got, e := atom.Of(turned); e != api.OK || !slices.EqualFunc(got, want, slices.Equal) {
			t.Fatalf("%v: %v, not %v", turned, got, want)
		}
	}
}

// P2.1: just so many are taken, one more is ErrMany, and no atoms beside it.
func TestLimitsOfOf(t *testing.T) {
	var single [][]api.Range
	for i := range 61 {
		single = append(single, set(2*i, 2*i))
	}
	for i, x := range []struct {
		sets  [][]api.Range
		atoms int // 0: too many
	}{
		{single[:60], 61},
		{single, 0},
		{slices.Repeat(sets(nil), 60), 1},
		{slices.Repeat(sets(nil), 61), 0},
		{sets(slices.Repeat(set(7, 7), 400)), 2},
		{sets(slices.Repeat(set(7, 7), 401)), 0},
		{sets(slices.Repeat(set(2, 1), 400)), 1},
		{sets(slices.Repeat(set(2, 1), 401)), 0},
		{sets(nil, set(1, 2), every(0, 401)), 0},
		{bits(199), 200},
		{bits(200), 0},
		{bits(255), 0},
		{sets(every(0, 400)), 2},                              // two atoms of 400 ranges
		{sets(every(1, 400)), 0},                              // the others would be 401 ranges
		{sets(every(1, 400), set(5000, 6000)), 0},             // 402, not only at the end
		{sets(every(1, 399)), 2},                              // the others are 400
		{sets(every(1, 200), every(2000, 199)), 3},            // as many, of two sets
		{sets(every(1, 200), every(2000, 200)), 0},            // one more
		{sets(set(0, 0), every(3, 399)), 3},                   // the others begin behind 0: 400
		{sets(set(1, 1), every(3, 399)), 0},                   // 401
		{sets(set(0, 900), every(1, 399)), 3},                 // 0 to 900 without 399 of them: 400
		{sets(set(0, 900), every(1, 400)), 0},                 // 401
		{slices.Repeat(sets(every(0, 400)), 60), 2},           // many ranges, few atoms
		{slices.Repeat(sets(every(0, 401)), 60), 0},           // more than 400 of each
		{append(bits(199), nil, set(0, api.Top)), 200},        // no set more tells anything apart
		{append(bits(199), set(api.Top, api.Top)), 0},         // the last character is the 201st atom
		{append(bits(199), set(1, 1), set(9, 3)), 200},        // 1 is alone anyway
		{append(bits(198), set(500, 500)), 200},               // the 200th is not the last piece
		{append(bits(198), set(500, 500), set(0, 0)), 0},      // 0 alone is the 201st
		{append(bits(199), slices.Repeat(set(1, 1), 401)), 0}, // of both kinds
	} {
		got, e := atom.Of(x.sets)
		if x.atoms == 0 {
			if e != api.ErrMany || len(got) != 0 {
				t.Errorf("%d: %d atoms, %d", i, len(got), e)
			}
		} else if e != api.OK || len(got) != x.atoms || !atom.Right(got) {
			t.Errorf("%d: %d atoms, %d, not %d", i, len(got), e, x.atoms)
		}
	}
}

// notAtoms: lists that are no atoms, each with its least characters.
func notAtoms() (lists [][]api.Range, firsts []int) {
	for _, x := range []struct {
		l     []api.Range
		first int
	}{
		{nil, -1}, {set(), -1}, {set(9, 9, 2, 2), 2}, {set(5, 4), -1}, {set(5, 4, 8, 8), 8}, {set(1, 3), 1}, {set(1, 9), 1}, {set(2, 3), 2},
		{set(-5, -1), -1}, {set(-5, 4), 0}, {set(api.Top, api.Top+5), api.Top}, {set(api.Top+1, api.Top+1), -1},
		{set(math.MinInt, math.MaxInt), 0}, {set(math.MaxInt, math.MinInt), -1}, {set(math.MinInt, math.MinInt, 30, 40, 20, 20), 20},
		{every(3, 400), 3}, {every(3, 401), -1}, {slices.Repeat(set(2, 1), 401), -1}, {slices.Concat(slices.Repeat(set(2, 1), 399), set(6, 6)), 6},
	} {
		lists, firsts = append(lists, x.l), append(firsts, x.first)
	}
	return lists, firsts
}

// P2.1: Firsts of lists that are no atoms, of none, and of more than there may be.
func TestFirsts(t *testing.T) {
	lists, want := notAtoms()
	if got := atom.Firsts(lists); !slices.Equal(got, want) {
		t.Errorf("%v, not %v", got, want)
	}
	if got := atom.Firsts(nil); len(got) != 0 {
		t.Error(got)
	}
	if got := atom.Firsts(slices.Repeat(sets(set(4, 5)), 300)); !slices.Equal(got, slices.Repeat([]int{4}, 300)) {
		t.Error(got)
	}
	atoms, _ := atom.Of(sets(set(0, 5), set(3, 9)))
	if got := atom.Firsts(atoms); !slices.Equal(got, []int{0, 3, 6, 10}) {
		t.Error(got)
	}
	atoms, _ = atom.Of(bits(199))
	for i, c := range atom.Firsts(atoms) {
		if c != i {
			t.Error(i, c)
		}
	}
}

// P2.1: Class is the first list that has a character, and -1 of what none has.
func TestClass(t *testing.T) {
	atoms, _ := atom.Of(sets(set('a', 'c'), set('b', 'b')))
	for i, x := range []struct {
		atoms   [][]api.Range
		c, want int
	}{
		{atoms, 0, 0}, {atoms, 'a', 1}, {atoms, 'b', 2}, {atoms, 'c', 1}, {atoms, 'd', 0}, {atoms, api.Top, 0},
		{atoms, -1, -1}, {atoms, api.Top + 1, -1}, {atoms, math.MinInt, -1}, {atoms, math.MaxInt, -1},
		{nil, 0, -1}, {sets(nil, nil), 0, -1},
		{sets(nil, set(1, 5), set(3, 9)), 4, 1}, {sets(nil, set(1, 5), set(3, 9)), 6, 2}, {sets(nil, set(1, 5), set(3, 9)), 10, -1},
		{sets(set(9, 3), set(9, 9, 3, 3)), 3, 1}, {sets(set(9, 3)), 5, -1},
		{sets(set(-5, api.Top+5)), -1, -1}, {sets(set(-5, api.Top+5)), api.Top + 1, -1}, {sets(set(-5, api.Top+5)), 0, 0}, {sets(set(-5, api.Top+5)), api.Top, 0},
		{sets(every(1, 401), every(1, 400)), 1, 1}, {sets(every(1, 401)), 1, -1}, {sets(every(1, 400)), 799, 0},
		{append(slices.Repeat(sets(nil), 300), set(7, 7)), 7, 300},
	} {
		if got := atom.Class(x.atoms, x.c); got != x.want {
			t.Errorf("%d: %d, not %d", i, got, x.want)
		}
	}
}

// P2.1: Within asks for the least character of each list alone.
func TestWithin(t *testing.T) {
	atoms, _ := atom.Of(sets(set(0, 5), set(3, 9)))
	lists, _ := notAtoms()
	for i, x := range []struct {
		atoms [][]api.Range
		set   []api.Range
		want  []int
	}{
		{atoms, nil, nil}, {atoms, set(0, api.Top), []int{0, 1, 2, 3}}, {atoms, set(3, 9), []int{1, 2}}, {atoms, set(4, 5), nil},
		{atoms, set(3, 3), []int{1}}, {atoms, set(9, 9, 10, 10, 0, 0), []int{0, 3}}, {atoms, set(10, 0), nil}, {atoms, set(11, api.Top), nil},
		{atoms, set(math.MinInt, math.MaxInt), []int{0, 1, 2, 3}}, {atoms, set(-5, -1, api.Top+1, api.Top+1), nil}, {atoms, set(-5, 0), []int{0}},
		{atoms, every(0, 400), []int{0, 2, 3}}, {atoms, every(0, 401), nil}, {atoms, slices.Repeat(set(0, api.Top), 401), nil},
		{nil, set(0, api.Top), nil}, {sets(nil, nil), set(-1, api.Top), nil},
		{lists, set(1, 1), []int{5, 6}}, {lists, set(-1, -1), nil}, {lists, set(2, 2), []int{2, 7}}, {lists, set(6, 8, 20, 20), []int{4, 14, 18}},
		{lists, set(-1, 0), []int{9, 12}}, {lists, set(api.Top, api.Top), []int{10}}, {lists, set(3, 3), []int{15}},
		{append(slices.Repeat(sets(nil), 300), set(7, 7)), set(7, 7), []int{300}},
	} {
		if got := atom.Within(x.atoms, x.set); !slices.Equal(got, x.want) {
			t.Errorf("%d: %v, not %v", i, got, x.want)
		}
	}
}

// Within and Firsts, on many lists that are no atoms, against the document's words.
func TestListsThatAreNoAtoms(t *testing.T) {
	for seed := range uint32(1000) {
		lists := small(seed*7 + 3)
		for _, x := range append(small(seed*5+1), set(-1, 3)) {
			var want []int
			for n, l := range lists {
				if has(x, first(l)) {
					want = append(want, n)
				}
			}
			if got := atom.Within(lists, x); !slices.Equal(got, want) {
				t.Fatalf("%v within %v: %v, not %v", lists, x, got, want)
			}
		}
		for n, c := range atom.Firsts(lists) {
			if c != first(lists[n]) {
				t.Fatalf("%v: %d at %d", lists, c, n)
			}
		}
		for _, c := range append(probes(lists), -1, api.Top+1) {
			if got := atom.Class(lists, c); got != slices.IndexFunc(lists, func(l []api.Range) bool { return has(l, c) }) {
				t.Fatalf("%v: Class of %d is %d", lists, c, got)
			}
		}
	}
}

// row: n atoms, each but the last one a character from 0 on.
func row(n int) [][]api.Range {
	var l [][]api.Range
	for c := range n - 1 {
		l = append(l, set(c, c))
	}
	return append(l, set(n-1, api.Top))
}

// P2.1: what Right takes, and what it doesn't.
func TestRight(t *testing.T) {
	for i, x := range [][][]api.Range{
		sets(set(0, api.Top)), sets(set(0, 4), set(5, api.Top)), sets(set(0, 0, api.Top, api.Top), set(1, api.Top-1)),
		sets(set(0, 0, 3, 3), set(1, 2, 5, api.Top), set(4, 4)), sets(set(0, api.Top-1), set(api.Top, api.Top)),
		row(2), row(199), row(200), sets(every(0, 400), append(every(1, 399), set(799, api.Top)...)),
	} {
		if !atom.Right(x) {
			t.Errorf("%d: %v is right", i, x)
		}
	}
	for i, x := range [][][]api.Range{
		nil, {}, {nil}, {{}}, row(201), append(row(200), nil),
		sets(set(0, api.Top), nil), sets(nil, set(0, api.Top)), sets(set(0, 4), nil, set(5, api.Top)), // one is empty
		sets(set(1, api.Top)), sets(set(0, api.Top-1)), sets(set(0, 4), set(6, api.Top)), sets(set(1, 4), set(5, api.Top)), sets(set(0, 4), set(5, api.Top-1)), // some in none
		sets(set(0, 4), set(4, api.Top)), sets(set(0, api.Top), set(5, 5)), sets(set(0, api.Top), set(0, api.Top)), sets(set(0, 0, 5, 5), set(1, 4, 5, api.Top)), // some in two
		sets(set(0, 0, 5, 5), set(1, 3, 5, api.Top)),                                  // one in two, and one in none
		sets(set(5, api.Top), set(0, 4)), sets(set(0, 4), set(9, api.Top), set(5, 8)), // not rising
		sets(set(0, 4, 5, 9), set(10, api.Top)), sets(set(9, api.Top, 0, 4), set(5, 8)), sets(set(0, 4, 4, 9), set(10, api.Top)), // not least
		sets(set(-1, api.Top)), sets(set(0, api.Top+1)), sets(set(math.MinInt, math.MaxInt)), sets(set(-4, -1, 0, api.Top)), sets(set(0, api.Top), set(api.Top+1, api.Top+1)), // no characters
		sets(set(5, 4)), sets(set(0, 4, 9, 8), set(5, api.Top)), sets(set(0, api.Top), set(9, 8)), sets(set(math.MaxInt, math.MinInt)), // from more to less
		sets(append(every(0, 400), set(800, api.Top)...), every(1, 400)), // 401 ranges
	} {
		if atom.Right(x) {
			t.Errorf("%d: %v isn't right", i, x)
		}
	}
}

// P2.1: Right against the document's words, on atoms of which one range is changed a little.
func TestRightOfNearlyAtoms(t *testing.T) {
	right := 0
	for seed := range uint32(1500) {
		atoms, _ := atom.Of(small(seed*9 + 2))
		n := int(seed) % len(atoms)
		r := int(seed/3) % len(atoms[n])
		changed := &atoms[n][r]
		switch seed % 5 {
		case 1:
			changed.Low++
		case 2:
			changed.High++
		case 3:
			changed.Low--
		case 4:
			changed.High--
		}
		want := true
		last := -1
		for _, a := range atoms {
			want = want && len(a) > 0 && least(a) && first(a) > last
			last = first(a)
		}
		for _, c := range probes(atoms) {
			in := 0
			for _, a := range atoms {
				if has(a, c) {
					in++
				}
			}
			want = want && in == 1
		}
		if got := atom.Right(atoms); got != want {
			t.Fatalf("%v: %v", atoms, got)
		}
		if want {
			right++
		}
	}
	if right != 300 {
		t.Error(right, "are right")
	}
}

// P2.2: any two characters of one atom are in the same sets, and of two atoms they aren't; asked of each character near the ends, not of those alone at which a set changes.
func TestNoneIsParted(t *testing.T) {
	for seed := range uint32(400) {
		l := small(seed*17 + 5)
		atoms, e := atom.Of(l)
		if e != api.OK {
			t.Fatal(e)
		}
		var near []int
		for c := range 20 {
			near = append(near, c, api.Top-c)
		}
		for _, c := range near {
			for _, d := range near {
				one := atom.Class(atoms, c) == atom.Class(atoms, d)
				if one != (owners(l, c) == owners(l, d)) {
					t.Fatalf("%v: %d and %d", l, c, d)
				}
			}
		}
	}
}

// What is handed in isn't changed, its spare room neither; answers share no memory with it, and no two lists of one answer share any.
func TestWhatIsHandedInStays(t *testing.T) {
	spare := api.Range{Low: 77, High: 78}
	room := func(l []api.Range) []api.Range { return append(slices.Clone(l), spare, spare)[:len(l)] }
	was := sets(set(5, 9, 1, 2, 2, 3), set(4, 4, -5, 0), set(0, api.Top), nil)
	var l [][]api.Range
	for _, x := range was {
		l = append(l, room(x))
	}
	l = append(l, room(set(7, 7)))[:len(l)]
	atoms, _ := atom.Of(l)
	want, _ := atom.Of(was)
	for i, a := range atoms {
		full := a[:cap(a)]
		for k := range full {
			full[k] = api.Range{Low: -1, High: -1}
		}
		for k := i + 1; k < len(atoms); k++ {
			if !slices.Equal(atoms[k], want[k]) {
				t.Errorf("atoms %d and %d share memory", i, k)
			}
		}
	}
	atom.Class(l, 3)
	atom.Within(l, l[0])
	atom.Firsts(l)
	atom.Right(l)
	atom.Right(l[2:3])
	if !slices.EqualFunc(l, was, slices.Equal) || !slices.Equal(l[:len(l)+1][len(l)], set(7, 7)) {
		t.Errorf("changed: %v", l)
	}
	for _, x := range l {
		if x[:cap(x)][len(x)] != spare {
			t.Errorf("spare room changed: %v", x)
		}
	}
}
