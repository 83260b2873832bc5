package span_test

import (
	"math"
	"slices"
	"testing"

	"caesura/api"
	"caesura/span"
)

// set: pairs of numbers, as ranges.
func set(n ...int) []api.Range {
	var l []api.Range
	for i := 0; i < len(n); i += 2 {
		l = append(l, api.Range{Low: n[i], High: n[i+1]})
	}
	return l
}

// every: n ranges of one character each, every second one from the first on.
func every(first, n int) []api.Range {
	var l []api.Range
	for i := range n {
		l = append(l, api.Range{Low: first + 2*i, High: first + 2*i})
	}
	return l
}

// covers: the words of the document for 'has', however long the list.
func covers(l []api.Range, c int) bool {
	if c < 0 || c > api.Top {
		return false
	}
	for _, r := range l {
		if r.Low <= c && c <= r.High {
			return true
		}
	}
	return false
}

// has: the same, but nothing of a list that is too long.
func has(l []api.Range, c int) bool { return len(l) <= 400 && covers(l, c) }

// least: the words of the document for 'as it is least', however long the list.
func least(l []api.Range) bool {
	for i, r := range l {
		if r.Low < 0 || r.High > 0x10ffff || r.Low > r.High {
			return false
		}
		if i > 0 && (r.Low <= l[i-1].High || r.Low-l[i-1].High < 2) {
			return false
		}
	}
	return true
}

// probes: each number at which one of the lists may change, those beside it, and the ends of all characters and numbers.
func probes(lists ...[]api.Range) []int {
	all := []int{math.MinInt, -1, 0, 1, api.Top - 1, api.Top, api.Top + 1, math.MaxInt}
	for _, l := range lists {
		for _, r := range l {
			for _, c := range []int{r.Low, r.High} {
				if c >= -1 && c <= api.Top+1 {
					all = append(all, c-1, c, c+1)
				}
			}
		}
	}
	slices.Sort(all)
	return slices.Compact(all)
}

// agree: is got as it is least, and of the characters that want says?
func agree(t *testing.T, what string, got []api.Range, places []int, want func(c int) bool) {
	t.Helper()
	if !least(got) {
		t.Errorf("%s: %v isn't least", what, got)
	}
	for _, c := range append(places, probes(got)...) {
		character := c >= 0 && c <= api.Top
		if covers(got, c) != (character && want(c)) {
			t.Errorf("%s: wrong at %d", what, c)
			return
		}
	}
}

// lists: ordinary ones, the edges, and wrong ones.
func lists() [][]api.Range {
	out := [][]api.Range{
		nil, {}, set(1, 3), set(4, 5), set(1, 5), set(2, 2), set(5, 9, 1, 2), set(1, 3, 5, 7),
		set(1, 3, 4, 5), set(4, 5, 1, 3), set(1, 9, 3, 4), set(3, 4, 1, 9), set(1, 9, 3, 12), set(3, 3, 3, 3, 2, 4),
		set(1, 20, 2, 3, 5, 6, 19, 22), set(1, 1, 3, 3, 2, 2),
		set(0, 0), set(api.Top, api.Top), set(0, 0, api.Top, api.Top), set(0, api.Top), set(1, api.Top), set(0, api.Top-1),
		set(5, 4), set(5, 4, 7, 8), set(api.Top, 0), set(math.MaxInt, math.MinInt),
		set(-5, 2), set(2, -5), set(-5, -1), set(-1, 0), set(api.Top+1, api.Top+9), set(api.Top, api.Top+1),
		set(math.MinInt, math.MaxInt), set(math.MinInt, -1, api.Top+1, math.MaxInt), set(math.MinInt, 3, api.Top-3, math.MaxInt),
		set(math.MaxInt, math.MaxInt, 4, 4), set(math.MinInt, math.MinInt, 4, 4),
		every(1, 400), every(0, 400), every(2, 400), every(1, 401), every(api.Top-798, 400),
		slices.Repeat(set(7, 7), 400), slices.Repeat(set(7, 7), 401), slices.Repeat(set(2, 1), 401),
		slices.Concat(slices.Repeat(set(2, 1), 399), set(3, 4)), slices.Concat(slices.Repeat(set(2, 1), 400), set(3, 4)),
	}
	back := every(1, 400)
	slices.Reverse(back)
	return append(out, back)
}

// small: a list made of a number, of ranges near the ends of all characters.
func small(seed uint32) []api.Range {
	var l []api.Range
	next := func(n uint32) int {
		seed = seed*1664525 + 1013904223
		return int((seed >> 16) % n)
	}
	base := []int{0, api.Top - 10}[next(2)]
	for range next(6) {
		low := base + next(14) - 2
		l = append(l, api.Range{Low: low, High: low + next(5) - 1})
	}
	return l
}

// checkOne: every call on one list, against the document's words.
func checkOne(t *testing.T, l []api.Range) {
	t.Helper()
	at := probes(l)
	agree(t, "Plain", span.Plain(l), at, func(c int) bool { return has(l, c) })
	agree(t, "Not", span.Not(l), at, func(c int) bool { return !has(l, c) })
	for _, c := range at {
		if span.Has(l, c) != has(l, c) {
			t.Errorf("Has of %v at %d", l, c)
		}
	}
	first, size := -1, 0
	for _, r := range span.Plain(l) {
		if first < 0 {
			first = r.Low
		}
		size += r.High - r.Low + 1
	}
	if f, s := span.First(l), span.Size(l); f != first || s != size {
		t.Errorf("First %d, Size %d of %v", f, s, l)
	}
	if span.Right(l) != (len(l) <= 400 && least(l)) {
		t.Errorf("Right of %v", l)
	}
}

// checkTwo: every call on two.
func checkTwo(t *testing.T, a, b []api.Range) {
	t.Helper()
	at := probes(a, b)
	agree(t, "Or", span.Or(a, b), at, func(c int) bool { return has(a, c) || has(b, c) })
	agree(t, "And", span.And(a, b), at, func(c int) bool { return has(a, c) && has(b, c) })
	agree(t, "Less", span.Less(a, b), at, func(c int) bool { return has(a, c) && !has(b, c) })
	same := true
	for _, c := range at {
		same = same && has(a, c) == has(b, c)
	}
	if span.Same(a, b) != same {
		t.Errorf("Same of %v and %v", a, b)
	}
}

// P1.1, on the lists that the document's edges make.
func TestEachCallAnswersAsSaid(t *testing.T) {
	all := lists()
	for _, a := range all {
		checkOne(t, a)
		for _, b := range all {
			checkTwo(t, a, b)
		}
	}
}

// P1.1, on many small lists.
func TestSmallListsAnswerAsSaid(t *testing.T) {
	for seed := range uint32(3000) {
		a, b := small(seed), small(seed*7+1)
		checkOne(t, a)
		checkTwo(t, a, b)
	}
}

// P1.1, answers written out by hand, so that no fault of the checks above hides one.
func TestWrittenOut(t *testing.T) {
	for i, x := range []struct{ got, want []api.Range }{
		{span.Plain(set(1, 3, 4, 5)), set(1, 5)},
		{span.Plain(set(1, 3, 5, 6)), set(1, 3, 5, 6)},
		{span.Plain(set(9, 9, 1, 5, 2, 3)), set(1, 5, 9, 9)},
		{span.Plain(set(-9, 0, api.Top, api.Top+9)), set(0, 0, api.Top, api.Top)},
		{span.Plain(set(math.MinInt, math.MaxInt)), set(0, api.Top)},
		{span.Plain(set(3, 2)), nil},
		{span.Plain(nil), nil},
		{span.Not(nil), set(0, api.Top)},
		{span.Not(set(0, api.Top)), nil},
		{span.Not(set(0, 0, api.Top, api.Top)), set(1, api.Top-1)},
		{span.Not(every(1, 401)), set(0, api.Top)},
		{span.Or(set(1, 3), set(4, 5)), set(1, 5)},
		{span.Or(set(1, 3), set(5, 5)), set(1, 3, 5, 5)},
		{span.Or(every(1, 401), set(5, 5)), set(5, 5)},
		{span.And(set(1, 5), set(5, 9)), set(5, 5)},
		{span.And(set(1, 4), set(5, 9)), nil},
		{span.And(set(1, 2, 3, 4), set(2, 3)), set(2, 3)},
		{span.Less(set(0, api.Top), set(0, 0)), set(1, api.Top)},
		{span.Less(set(0, api.Top), set(api.Top, api.Top)), set(0, api.Top-1)},
		{span.Less(set(1, 9), set(4, 4)), set(1, 3, 5, 9)},
		{span.Less(set(1, 9), every(1, 401)), set(1, 9)},
		{span.Less(set(4, 4), set(1, 9)), nil},
	} {
		if !slices.Equal(x.got, x.want) {
			t.Errorf("%d: %v, not %v", i, x.got, x.want)
		}
	}
	if span.First(set(5, 6, 2, 1, -3, 0)) != 0 || span.First(set(-3, -1)) != -1 || span.First(every(1, 401)) != -1 || span.First(set(9, 9, api.Top, api.Top, 8, 8)) != 8 {
		t.Error("First")
	}
	if span.Size(set(-9, 4, 3, 6)) != 7 || span.Size(set(4, 3)) != 0 || span.Size(nil) != 0 || span.Size(set(math.MinInt, math.MaxInt)) != 1114112 || span.Size(every(1, 400)) != 400 || span.Size(every(1, 401)) != 0 {
		t.Error("Size")
	}
}

// P1.1: just 400 ranges are taken, one more has nothing.
func TestFourHundredRanges(t *testing.T) {
	just, more := every(1, 400), every(1, 401)
	if !span.Right(just) || span.Right(more) {
		t.Error("Right")
	}
	if !span.Has(just, 799) || span.Has(more, 799) || span.Has(more, 1) {
		t.Error("Has")
	}
	if !slices.Equal(span.Plain(just), just) || len(span.Plain(more)) != 0 {
		t.Error("Plain")
	}
	if span.Same(just, nil) || !span.Same(more, nil) || !span.Same(more, set(5, 4)) {
		t.Error("Same")
	}
}

// P1.1: no limit is named for an answer, so one of more than 400 ranges is told whole.
func TestAnswersBeyondFourHundredRanges(t *testing.T) {
	a, b := every(0, 400), every(1000, 400)
	if or := span.Or(a, b); !slices.Equal(or, slices.Concat(a, b)) {
		t.Error("Or", len(or))
	}
	if not := span.Not(every(1, 400)); len(not) != 401 || not[0] != (api.Range{}) || not[400] != (api.Range{Low: 800, High: api.Top}) {
		t.Error("Not", len(not))
	}
	if less := span.Less(set(0, api.Top), every(1, 400)); !slices.Equal(less, span.Not(every(1, 400))) {
		t.Error("Less", len(less))
	}
	var wide, holes []api.Range
	for i := range 400 {
		wide = append(wide, api.Range{Low: 10 * i, High: 10*i + 8})
		holes = append(holes, api.Range{Low: 10*i + 4, High: 10*i + 4})
	}
	if less := span.Less(wide, holes); len(less) != 800 || less[799] != (api.Range{Low: 3995, High: 3998}) {
		t.Error("Less", len(less))
	}
	var shifted []api.Range
	for i := range 400 {
		shifted = append(shifted, api.Range{Low: 10*i + 6, High: 10*i + 12})
	}
	if and := span.And(wide, shifted); len(and) != 799 || and[798] != (api.Range{Low: 3996, High: 3998}) {
		t.Error("And", len(and))
	}
}

func TestRight(t *testing.T) {
	for i, l := range [][]api.Range{nil, {}, set(0, 0), set(0, api.Top), set(api.Top, api.Top), set(0, 0, 2, 2), set(1, 3, 5, 5, 9, api.Top)} {
		if !span.Right(l) {
			t.Errorf("%d: %v is right", i, l)
		}
	}
	for i, l := range [][]api.Range{
		set(1, 2, 3, 4), set(1, 3, 3, 4), set(1, 9, 3, 4), set(3, 4, 1, 1), set(2, 1), set(1, 2, 5, 4), set(-1, 2), set(-1, -1),
		set(math.MinInt, 2), set(3, math.MaxInt), set(api.Top+1, api.Top+1), set(0, api.Top+1), set(1, 1, 1, 1), set(math.MaxInt, math.MinInt),
	} {
		if span.Right(l) {
			t.Errorf("%d: %v isn't right", i, l)
		}
	}
}

// P1.2: what isn't one of either is neither; and what both have is what no other has.
func TestNotOneOfEitherIsNeither(t *testing.T) {
	for seed := range uint32(2000) {
		a, b := small(seed*3+2), small(seed*5+4)
		neither := span.And(span.Not(a), span.Not(b))
		if got := span.Not(span.Or(a, b)); !slices.Equal(got, neither) {
			t.Fatalf("%v, %v: %v, not %v", a, b, got, neither)
		}
		if got := span.Not(span.And(a, b)); !slices.Equal(got, span.Or(span.Not(a), span.Not(b))) {
			t.Fatalf("%v, %v: %v", a, b, got)
		}
		if got := span.Less(a, b); !slices.Equal(got, span.And(a, span.Not(b))) {
			t.Fatalf("%v, %v: %v", a, b, got)
		}
		if got := span.Not(span.Not(a)); !slices.Equal(got, span.Plain(a)) {
			t.Fatalf("%v: %v", a, got)
		}
	}
	a, b := every(0, 200), every(401, 199)
	if !slices.Equal(span.Not(span.Or(a, b)), span.And(span.Not(a), span.Not(b))) {
		t.Error("many")
	}
}

// P1.2: two that are the same have one least list, and two that aren't have two.
func TestOneLeastList(t *testing.T) {
	for seed := range uint32(2000) {
		a, b := small(seed*11+3), small(seed*13+5)
		turned := slices.Concat(a, a)
		slices.Reverse(turned)
		if !span.Same(a, turned) || !slices.Equal(span.Plain(a), span.Plain(turned)) {
			t.Fatalf("%v, turned round", a)
		}
		if span.Same(a, b) != slices.Equal(span.Plain(a), span.Plain(b)) {
			t.Fatalf("%v, %v", a, b)
		}
		if p := span.Plain(a); !span.Right(p) || !slices.Equal(span.Plain(p), p) {
			t.Fatalf("%v: %v", a, p)
		}
	}
	if span.Same(set(1, 3), set(1, 4)) || span.Same(set(0, 3), set(1, 3)) || !span.Same(set(-1, 3), set(2, 3, 0, 1)) {
		t.Error("Same")
	}
}

// What is handed in isn't changed, its spare room neither, and no answer shares memory with it.
func TestWhatIsHandedInStays(t *testing.T) {
	spare := api.Range{Low: 77, High: 78}
	room := func(l []api.Range) []api.Range { return append(slices.Clone(l), spare, spare)[:len(l)] }
	for _, x := range []struct{ a, b []api.Range }{
		{set(5, 9, 1, 2, 2, 3), set(4, 4, -5, 0)}, {set(1, 3, 5, 9), set(20, 30)}, {set(1, 3), nil}, {nil, set(1, 3)},
	} {
		a, b := room(x.a), room(x.b)
		span.Right(a)
		span.Has(a, 3)
		span.First(a)
		span.Size(a)
		span.Same(a, b)
		for _, got := range [][]api.Range{span.Plain(a), span.Or(a, b), span.And(a, b), span.Less(a, b), span.Not(a)} {
			full := got[:cap(got)]
			for i := range full {
				full[i] = api.Range{Low: -1, High: -1}
			}
		}
		if !slices.Equal(a, x.a) || !slices.Equal(b, x.b) {
			t.Errorf("changed: %v, %v", a, b)
		}
		for _, l := range [][]api.Range{a, b} {
			if l[:cap(l)][len(l)] != spare {
				t.Errorf("spare room changed: %v", l[:len(l)+2])
			}
		}
	}
}
