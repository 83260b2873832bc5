package sign_test

import (
	"fmt"
	"math"
	"slices"
	"strings"
	"testing"

	"caesura/api"
	"caesura/rule"
	"caesura/sign"
)

// set: pairs of numbers, as ranges.
func set(n ...int) []api.Range {
	var l []api.Range
	for i := 0; i < len(n); i += 2 {
		l = append(l, api.Range{Low: n[i], High: n[i+1]})
	}
	return l
}

// sets: several, as a list.
func sets(l ...[]api.Range) [][]api.Range { return l }

// every: n ranges of one character each, every second one from the first on.
func every(first, n int) []api.Range {
	var l []api.Range
	for i := range n {
		l = append(l, set(first+2*i, first+2*i)...)
	}
	return l
}

// chars, pat: forms, written down; both takes them one behind the other.
func chars(n ...int) api.Pat { return api.Pat{Kind: api.PatSet, Set: set(n...)} }

func pat(kind int, kids ...api.Pat) api.Pat { return api.Pat{Kind: kind, Kids: kids} }

func both(kids ...api.Pat) api.Pat { return pat(api.PatJoin, kids...) }

// of: a form of these sets.
func of(l ...[]api.Range) api.Pat {
	var kids []api.Pat
	for _, x := range l {
		kids = append(kids, api.Pat{Kind: api.PatSet, Set: x})
	}
	return both(kids...)
}

// deep: a form within so many others, of all kinds that hold others.
func deep(p api.Pat, many int) api.Pat {
	for i := range many {
		p = pat(api.PatJoin+i%5, p)
	}
	return p
}

// told: a form with these Signs beside whatever it is.
func told(p api.Pat, signs ...int) api.Pat {
	p.Signs = signs
	return p
}

// books: one of each list of forms, a rule of each two of them.
func books(l ...[]api.Pat) []api.Book {
	var all []api.Book
	for _, forms := range l {
		var x api.Book
		for i := 0; i < len(forms); i += 2 {
			x.Rules = append(x.Rules, api.Rule{Number: i, Before: forms[i], After: forms[i+1]})
		}
		all = append(all, x)
	}
	return all
}

// show, showNode, showBook: all that is in them, as texts.
func show(p api.Pat) string {
	var s strings.Builder
	for _, k := range p.Kids {
		s.WriteString(show(k))
	}
	return fmt.Sprintf("{%d %v %v %s}", p.Kind, p.Set, p.Signs, s.String())
}

func showNode(n api.Node) string {
	var s strings.Builder
	for _, k := range n.Kids {
		s.WriteString(showNode(k))
	}
	return fmt.Sprintf("<%d %q %d %d %s>", n.Kind, n.Name, n.Low, n.High, s.String())
}

func showBook(x api.Book) string {
	var s strings.Builder
	for _, v := range x.Vars {
		fmt.Fprintf(&s, "%q %s %v at %d\n", v.Name, show(v.Pat), v.Set, v.Pos)
	}
	for _, r := range x.Rules {
		fmt.Fprintf(&s, "%d %v %s %s at %d\n", r.Number, r.Cut, show(r.Before), show(r.After), r.Pos)
	}
	for _, a := range x.Allows {
		fmt.Fprintf(&s, "%d %q %d %v %s %s at %d\n", a.Kind, a.Name, a.Number, a.Cut, showNode(a.Before), showNode(a.After), a.Pos)
	}
	return s.String() + fmt.Sprintf("%q", x.Used)
}

// sameSets: the same lists of ranges, as they stand, one by one?
func sameSets(a, b [][]api.Range) bool { return slices.EqualFunc(a, b, slices.Equal) }

// has: the words of the document: nothing of a list that is too long, characters alone.
func has(l []api.Range, c int) bool {
	return len(l) <= 400 && c >= 0 && c <= 0x10ffff && slices.ContainsFunc(l, func(r api.Range) bool { return r.Low <= c && c <= r.High })
}

// first: the least character of a list, which is 0 or the Low of one of its ranges; -1 of none.
func first(l []api.Range) int {
	least := -1
	for _, r := range append(set(0, 0), l...) {
		if has(l, r.Low) && (least < 0 || r.Low < least) {
			least = r.Low
		}
	}
	return least
}

// setsIn: the document's words for the sets of a form, by its nodes one after the other.
func setsIn(forms ...api.Pat) [][]api.Range {
	var all [][]api.Range
	for todo := slices.Clone(forms); len(todo) > 0; {
		p := todo[0]
		todo = slices.Concat(p.Kids, todo[1:])
		if p.Kind == 2 && !slices.ContainsFunc(all, func(x []api.Range) bool { return slices.Equal(x, p.Set) }) {
			all = append(all, p.Set)
		}
	}
	return all
}

// toldBy: the document's words for a form whose signs are told.
func toldBy(p api.Pat, atoms [][]api.Range) api.Pat {
	p.Signs = nil
	if p.Kind == 2 {
		for n, a := range atoms {
			if c := first(a); c >= 0 && has(p.Set, c) {
				p.Signs = append(p.Signs, n)
			}
		}
	}
	var kids []api.Pat
	for _, k := range p.Kids {
		kids = append(kids, toldBy(k, atoms))
	}
	p.Kids = kids
	return p
}

// bookBy: the document's words for a book whose signs are told.
func bookBy(x api.Book, atoms [][]api.Range) api.Book {
	var rules []api.Rule
	for _, r := range x.Rules {
		r.Before, r.After = toldBy(r.Before, atoms), toldBy(r.After, atoms)
		rules = append(rules, r)
	}
	x.Rules = rules
	return x
}

// read: a text's book.
func read(t *testing.T, s string) api.Book {
	t.Helper()
	x, at, e := rule.Read([]byte(s))
	if e != api.OK {
		t.Fatalf("%q: %d %d", s, at, e)
	}
	return x
}

// take: books' atoms, which there are.
func take(t *testing.T, l ...api.Book) [][]api.Range {
	t.Helper()
	atoms, e := sign.Of(l)
	if e != api.OK {
		t.Fatal(e)
	}
	return atoms
}

// checkTell: Tell against the document's words.
func checkTell(t *testing.T, p api.Pat, atoms [][]api.Range) {
	t.Helper()
	if got, want := show(sign.Tell(p, atoms)), show(toldBy(p, atoms)); got != want {
		t.Errorf("%.900s by %.300v:\n%.900s, not\n%.900s", show(p), atoms, got, want)
	}
}

// checkSets: Sets against the document's words.
func checkSets(t *testing.T, p api.Pat) {
	t.Helper()
	if got, want := sign.Sets(p), setsIn(p); !sameSets(got, want) {
		t.Errorf("%.900s: %.300v, not %.300v", show(p), got, want)
	}
}

// maker makes things of a number.
type maker struct{ seed uint32 }

func (m *maker) next(n int) int {
	m.seed = m.seed*1664525 + 1013904223
	return int((m.seed >> 16) % uint32(n))
}

// ranges: a list of ranges near the ends of all characters, some of them wrong, some touching or turned round.
func (m *maker) ranges() []api.Range {
	var l []api.Range
	base := []int{0, api.Top - 10}[m.next(2)]
	for range m.next(5) {
		low := base + m.next(14) - 2
		l = append(l, set(low, low+m.next(6)-1)...)
	}
	return l
}

// form: one, of few sets, with whatever else in it.
func (m *maker) form(few [][]api.Range, depth int) api.Pat {
	p := api.Pat{Kind: m.next(10) - 1}
	if m.next(2) == 0 {
		p.Kind = api.PatSet
	}
	if p.Kind == api.PatSet || m.next(4) == 0 {
		p.Set = few[m.next(len(few))]
	}
	for range m.next(3) {
		p.Signs = append(p.Signs, m.next(9)-2)
	}
	if depth > 0 && (p.Kind != api.PatSet || m.next(5) == 0) {
		for range m.next(4) {
			p.Kids = append(p.Kids, m.form(few, depth-1))
		}
	}
	return p
}

// many: lists of ranges.
func (m *maker) many(n int) [][]api.Range {
	var l [][]api.Range
	for range n {
		l = append(l, m.ranges())
	}
	return l
}

// book: one, of few sets.
func (m *maker) book(few [][]api.Range) api.Book {
	var x api.Book
	for i := range m.next(5) {
		x.Rules = append(x.Rules, api.Rule{Number: m.next(50), Cut: m.next(2) == 0, Before: m.form(few, 3), After: m.form(few, 3), Pos: i})
	}
	for i := range m.next(3) {
		x.Vars = append(x.Vars, api.Var{Name: fmt.Sprint("n", i), Pat: m.form(few, 2), Set: m.next(2) == 0, Pos: m.next(99)})
	}
	return x
}

// bits: as many sets as a number has bits, that tell the characters 1 to n apart, from one another and from all others.
func bits(n int) [][]api.Range {
	var all [][]api.Range
	for bit := range 8 {
		var l []api.Range
		for c := 1; c <= n; c++ {
			if c>>bit&1 == 1 {
				l = append(l, set(c, c)...)
			}
		}
		all = append(all, l)
	}
	return all
}

// P10.1: the document's example, and what its calls answer, written out.
func TestExample(t *testing.T) {
	x := read(t, "3 [a-c] \u00d7 [b]")
	atoms := take(t, x)
	if want := sets(set(0, 'a'-1, 'd', api.Top), set('a', 'a', 'c', 'c'), set('b', 'b')); !sameSets(atoms, want) {
		t.Error(atoms)
	}
	y := sign.Book(x, atoms)
	if got := show(y.Rules[0].Before) + show(y.Rules[0].After); got != "{2 [{97 99}] [1 2] }{2 [{98 98}] [2] }" {
		t.Error(got)
	}
	if l, e := sign.Word(atoms, []int{'a', 'b', 'c', 'd', 0}); e != api.OK || !slices.Equal(l, []int{1, 2, 1, 0, 0}) {
		t.Error(l, e)
	}
	if l, e := sign.Chars(atoms, []int{2, 1, 1, 0}); e != api.OK || !slices.Equal(l, []int{'b', 'a', 'a', 0}) {
		t.Error(l, e)
	}
}

// P10.1: Sets, written out, so that no fault of the checks hides one.
func TestSetsWrittenOut(t *testing.T) {
	a, b, c := chars(1, 3), chars(2, 2), chars(7, 9)
	for i, x := range []struct {
		p    api.Pat
		want [][]api.Range
	}{
		{api.Pat{}, nil},
		{pat(api.PatEmpty), nil},
		{both(pat(api.PatEmpty), pat(api.PatOr), pat(api.PatStar)), nil},
		{chars(), sets(nil)},
		{api.Pat{Kind: api.PatSet, Set: set()}, sets(nil)},
		{both(chars(), a, chars()), sets(nil, a.Set)},
		{both(a, api.Pat{Kind: api.PatSet, Set: []api.Range{}}, chars()), sets(a.Set, nil)},
		{a, sets(a.Set)},
		{both(c, a, b), sets(c.Set, a.Set, b.Set)},
		{both(c, a, c, a, b, b), sets(c.Set, a.Set, b.Set)},
		{both(pat(api.PatStar, c), pat(api.PatOr, both(b, a), c), a), sets(c.Set, b.Set, a.Set)},
		{both(both(both(c), b), both(b, both(a))), sets(c.Set, b.Set, a.Set)},
		// Of the same characters, but their ranges stand otherwise: these are several.
		{both(chars(1, 5), chars(1, 3, 4, 5), chars(4, 5, 1, 3), chars(1, 5, 1, 5), chars(1, 5)), sets(set(1, 5), set(1, 3, 4, 5), set(4, 5, 1, 3), set(1, 5, 1, 5))},
		{both(chars(5, 4), chars(), chars(4, 3), chars(5, 4)), sets(set(5, 4), nil, set(4, 3))},
		{both(chars(-5, 3), chars(0, 3), chars(math.MinInt, math.MaxInt), chars(math.MaxInt, math.MinInt)), sets(set(-5, 3), set(0, 3), set(math.MinInt, math.MaxInt), set(math.MaxInt, math.MinInt))},
		// One that begins as another one does, and such as have the same numbers elsewhere.
		{both(chars(1, 2, 4, 5), chars(1, 2), chars(1, 2, 4, 5, 7, 8), chars(1, 2, 4, 5)), sets(set(1, 2, 4, 5), set(1, 2), set(1, 2, 4, 5, 7, 8))},
		{both(chars(1, 2, 3, 4), chars(1, 2, 4, 3), chars(2, 1, 3, 4), chars(3, 4, 1, 2)), sets(set(1, 2, 3, 4), set(1, 2, 4, 3), set(2, 1, 3, 4), set(3, 4, 1, 2))},
		// A Set of what isn't a PatSet is none of them, PatSets in whatever node are.
		{api.Pat{Kind: api.PatEmpty, Set: set(1, 3)}, nil},
		{api.Pat{Kind: api.PatJoin, Set: set(1, 3), Kids: []api.Pat{b}}, sets(b.Set)},
		{both(pat(api.PatEmpty, a), pat(0, b), pat(99, c), pat(-1, chars(4, 4))), sets(a.Set, b.Set, c.Set, set(4, 4))},
		{both(api.Pat{Kind: api.PatSet, Set: set(1, 3), Kids: []api.Pat{b, a, c}}, chars(4, 4)), sets(a.Set, b.Set, c.Set, set(4, 4))},
		{both(told(a, 4, 7), told(a, 5), a, told(b, 4, 7)), sets(a.Set, b.Set)},
		{deep(both(c, a, b), 200), sets(c.Set, a.Set, b.Set)},
		{both(deep(c, 200), a, deep(b, 150), deep(c, 3)), sets(c.Set, a.Set, b.Set)},
		{of(every(0, 400), every(0, 401), every(0, 5000), every(0, 400)), sets(every(0, 400), every(0, 401), every(0, 5000))},
	} {
		got := sign.Sets(x.p)
		if !sameSets(got, x.want) {
			t.Errorf("%d: %.300v, not %.300v", i, got, x.want)
		}
		checkSets(t, x.p)
	}
	var l [][]api.Range
	for i := range 1000 {
		l = append(l, set(i%37, i/37))
	}
	if got := sign.Sets(of(slices.Concat(l, l)...)); !sameSets(got, l) {
		t.Error(len(got))
	}
}

// P10.1: atoms, written out: of no books, of such without rules, of sets in Before and in After, in several rules and books, and of none beside these.
func TestOfWrittenOut(t *testing.T) {
	all, a, b := set(0, api.Top), chars('a', 'c'), chars('b', 'b')
	three := sets(set(0, 'a'-1, 'd', api.Top), set('a', 'a', 'c', 'c'), set('b', 'b'))
	beside := api.Book{
		Vars:   []api.Var{{Name: "v", Pat: chars(1, 5), Set: true}},
		Allows: []api.Item{{Kind: api.ItemAllow, Name: "dead", Number: -1}},
		Used:   []string{"v"},
	}
	named := beside
	named.Rules = []api.Rule{{Number: 3, Before: a, After: b}}
	for i, x := range []struct {
		l    []api.Book
		want [][]api.Range
	}{
		{nil, sets(all)},
		{[]api.Book{}, sets(all)},
		{[]api.Book{{}, {}}, sets(all)},
		{[]api.Book{beside}, sets(all)},
		{[]api.Book{named}, three},
		{books([]api.Pat{pat(api.PatEmpty), pat(api.PatEmpty)}), sets(all)},
		{books([]api.Pat{{}, {}}), sets(all)},
		{books([]api.Pat{chars(), chars()}), sets(all)},
		{books([]api.Pat{chars(0, api.Top), chars(5, 4)}), sets(all)},
		{books([]api.Pat{a, b}), three},
		{books([]api.Pat{b, a}), three},
		{books([]api.Pat{a, pat(api.PatEmpty), b, pat(api.PatEmpty)}), three},
		{books([]api.Pat{pat(api.PatEmpty), a, pat(api.PatEmpty), b}), three},
		{books([]api.Pat{a, chars()}, []api.Pat{chars(), b}), three},
		{books(nil, []api.Pat{b, b}, nil, []api.Pat{a, a}), three},
		{books([]api.Pat{deep(both(a, deep(b, 90)), 100), deep(a, 7)}), three},
		{books([]api.Pat{told(a, 7), told(pat(api.PatStar, b), 1)}), three},
		{books([]api.Pat{api.Pat{Kind: api.PatStar, Set: set(1, 2), Kids: []api.Pat{a}}, b}), three},
		{books([]api.Pat{both(chars('a', 'a', 'b', 'c'), chars('b', 'c', 'a', 'a')), both(a, b, chars('b', 'b', 5, 4))}), three},
		{books([]api.Pat{chars(-9, 2), chars(api.Top-1, api.Top+9)}), sets(set(0, 2), set(3, api.Top-2), set(api.Top-1, api.Top))},
		{books([]api.Pat{chars(0, 0), chars(api.Top, api.Top)}), sets(set(0, 0), set(1, api.Top-1), set(api.Top, api.Top))},
	} {
		if got, e := sign.Of(x.l); e != api.OK || !sameSets(got, x.want) {
			t.Errorf("%d: %.300v %d, not %.300v", i, got, e, x.want)
		}
	}
	// Lines beside the rules say nothing, unless a rule uses them.
	if got := take(t, read(t, "$v=[a-c]\n$w=[$v b]\n#allow idle\n3 \u00d7")); !sameSets(got, sets(all)) {
		t.Error(got)
	}
	if got := take(t, read(t, "$v=[a-c]\n$w=[b]\n$x=[0-9]\n#allow idle\n3 $v* ($w|()) \u00d7")); !sameSets(got, three) {
		t.Error(got)
	}
}

// P10.1: layer 2's errors, each set counted once, wherever it stands.
func TestLimitsOfOf(t *testing.T) {
	var single, others [][]api.Range
	for i := range 61 {
		single = append(single, set(2*i, 2*i))
		others = append(others, set(2*i, 2*i, 5, 4))
	}
	empty := pat(api.PatEmpty)
	spread := func(l [][]api.Range) []api.Book {
		var all [][]api.Pat
		for _, x := range l {
			all = append(all, []api.Pat{empty, empty, empty, deep(of(x), 9), of(x), empty})
		}
		return books(all...)
	}
	for i, x := range []struct {
		l     []api.Book
		atoms int // 0: too many
	}{
		{books([]api.Pat{of(single[:60]...), empty}), 61},
		{books([]api.Pat{of(single...), empty}), 0},
		{books([]api.Pat{empty, of(single[:60]...)}), 61},
		{books([]api.Pat{empty, of(single...)}), 0},
		{books([]api.Pat{of(single[:30]...), of(single[30:60]...)}), 61},
		{books([]api.Pat{of(single[:30]...), of(single[30:]...)}), 0},
		{books([]api.Pat{of(single[:60]...), of(single[:60]...), of(single[:60]...), empty}), 61},
		{books([]api.Pat{of(single[:60]...), empty}, []api.Pat{of(single[:60]...), empty}), 61},
		{books([]api.Pat{of(single[:60]...), empty}, []api.Pat{of(single[1:]...), empty}), 0},
		{books([]api.Pat{of(single[:60]...), empty}, []api.Pat{empty, chars()}), 0},
		{books([]api.Pat{of(slices.Concat(single[:59], sets(nil, nil))...), chars()}), 60},
		{books([]api.Pat{of(slices.Concat(single[:59], sets(nil, nil))...), chars(5, 4)}), 0},
		{spread(single[:60]), 61},
		{spread(single), 0},
		// The same characters, but ranges that stand otherwise, count each.
		{books([]api.Pat{of(single[:30]...), of(others[:30]...)}), 31},
		{books([]api.Pat{of(single[:31]...), of(others[:30]...)}), 0},
		{books([]api.Pat{of(single[:30]...), empty}, []api.Pat{of(others[:31]...), empty}), 0},
		{books([]api.Pat{chars(), of(slices.Repeat(set(7, 7), 400))}), 2},
		{books([]api.Pat{chars(), of(slices.Repeat(set(7, 7), 401))}), 0},
		{books([]api.Pat{chars(), of(slices.Repeat(set(2, 1), 401))}), 0},
		{books(nil, []api.Pat{deep(of(every(0, 401)), 200), empty}), 0},
		{books(nil, []api.Pat{deep(of(every(0, 400)), 200), empty}), 2},
		{books([]api.Pat{of(every(1, 400)), empty}), 0},
		{books([]api.Pat{of(every(1, 399)), empty}), 2},
		{books([]api.Pat{of(every(1, 200)), empty}, []api.Pat{of(every(2000, 199)), empty}), 3},
		{books([]api.Pat{of(every(1, 200)), empty}, []api.Pat{of(every(2000, 200)), empty}), 0},
		{books([]api.Pat{of(bits(199)...), empty}), 200},
		{books([]api.Pat{of(bits(200)...), empty}), 0},
		{books([]api.Pat{of(bits(199)...), empty}, []api.Pat{empty, chars(api.Top, api.Top)}), 0},
		{books([]api.Pat{of(bits(199)...), empty}, []api.Pat{empty, chars(1, 1, 9, 3)}), 200},
	} {
		got, e := sign.Of(x.l)
		if x.atoms == 0 {
			if e != api.ErrMany || len(got) != 0 {
				t.Errorf("%d: %d atoms, %d", i, len(got), e)
			}
		} else if e != api.OK || len(got) != x.atoms {
			t.Errorf("%d: %d atoms, %d, not %d", i, len(got), e, x.atoms)
		}
	}
}

// notAtoms: lists that are no atoms: none, empty ones, such as overlap, or whose ranges stand otherwise, and too long ones.
func notAtoms() [][][]api.Range {
	return [][][]api.Range{
		nil, {}, {nil}, {{}, nil}, {nil, set(1, 5), nil, set(3, 9), nil}, {set(9, 9, 3, 3), set(5, 4), set(-5, -1), set(-5, 4)},
		{set(5, 5)}, {set(api.Top, api.Top+5), set(api.Top+1, api.Top+1), set(math.MinInt, math.MaxInt), set(math.MaxInt, math.MinInt)},
		{every(1, 401), every(1, 400), slices.Repeat(set(2, 1), 401), slices.Concat(slices.Repeat(set(2, 1), 399), set(3, 3))},
		append(slices.Repeat(sets(nil), 300), set(7, 7), set(0, 7)),
	}
}

// P10.1: Tell, written out: of a form that is told already, too, and by no atoms, empty ones, and those of other sets.
func TestTellWrittenOut(t *testing.T) {
	a, b, any := chars('a', 'c'), chars('b', 'b'), chars(0, api.Top)
	atoms := sets(set(0, 'a'-1, 'd', api.Top), set('a', 'a', 'c', 'c'), set('b', 'b'))
	for i, x := range []struct {
		p     api.Pat
		atoms [][]api.Range
		want  api.Pat
	}{
		{api.Pat{}, atoms, api.Pat{}},
		{pat(api.PatEmpty), atoms, pat(api.PatEmpty)},
		{chars(), atoms, chars()},
		{a, atoms, told(a, 1, 2)},
		{b, atoms, told(b, 2)},
		{any, atoms, told(any, 0, 1, 2)},
		{both(b, pat(api.PatOr, a, chars()), b), atoms, both(told(b, 2), pat(api.PatOr, told(a, 1, 2), chars()), told(b, 2))},
		{chars('c', 'c', 'a', 'b'), atoms, told(chars('c', 'c', 'a', 'b'), 1, 2)},
		{chars(math.MinInt, math.MaxInt), atoms, told(chars(math.MinInt, math.MaxInt), 0, 1, 2)},
		{chars('b', 'a'), atoms, chars('b', 'a')},
		// An atom's least character alone says whether it is within.
		{chars('c', 'c'), atoms, chars('c', 'c')},
		{chars('a', 'a'), atoms, told(chars('a', 'a'), 1)},
		{chars('d', api.Top), atoms, chars('d', api.Top)},
		{of(every(0, 401)), atoms, of(every(0, 401))},
		{of(every(0, 400)), atoms, both(told(api.Pat{Kind: api.PatSet, Set: every(0, 400)}, 0, 2))},
		// What was told already is told anew, or not at all.
		{told(a, 7, 8), atoms, told(a, 1, 2)},
		{told(chars(), 0), atoms, chars()},
		{told(pat(api.PatEmpty), 1, 2), atoms, pat(api.PatEmpty)},
		{told(pat(api.PatStar, told(b, 1, 1)), 4), atoms, pat(api.PatStar, told(b, 2))},
		{told(pat(77, told(a, -1)), 4), atoms, pat(77, told(a, 1, 2))},
		{told(a, 7, 8), nil, a},
		{told(pat(api.PatPlus, told(any, 0)), 1), sets(nil, set(5, 4)), pat(api.PatPlus, any)},
		// A Set of what isn't a PatSet stays, PatSets in whatever node are told.
		{api.Pat{Kind: api.PatMaybe, Set: set('a', 'c'), Kids: []api.Pat{a}}, atoms, api.Pat{Kind: api.PatMaybe, Set: set('a', 'c'), Kids: []api.Pat{told(a, 1, 2)}}},
		{api.Pat{Kind: api.PatSet, Set: set('b', 'b'), Kids: []api.Pat{a}}, atoms, api.Pat{Kind: api.PatSet, Set: set('b', 'b'), Signs: []int{2}, Kids: []api.Pat{told(a, 1, 2)}}},
		{api.Pat{Kind: 0, Kids: []api.Pat{a, pat(-3, b)}}, atoms, api.Pat{Kind: 0, Kids: []api.Pat{told(a, 1, 2), pat(-3, told(b, 2))}}},
		// Atoms that are none: empty ones, such as overlap, and such as are told by one list alone.
		{both(a, chars(-1, 0)), sets(nil, set('b', 'd'), nil, set('c', 'z')), both(told(a, 1, 3), chars(-1, 0))},
		{chars(-1, -1), sets(nil, set(-1, -1)), chars(-1, -1)},
		{both(any, chars(0, 0)), sets(every(1, 401), set(-9, 3), set(3, 3, 1, 1)), both(told(any, 1, 2), told(chars(0, 0), 1))},
		{any, append(slices.Repeat(sets(nil), 300), set(7, 7)), told(any, 300)},
		// Of the same ranges the same signs, of a list that begins so its own.
		{both(chars('b', 'b', 'a', 'a'), b, chars('b', 'b', 'a', 'a', 0, 0), b), atoms, both(told(chars('b', 'b', 'a', 'a'), 1, 2), told(b, 2), told(chars('b', 'b', 'a', 'a', 0, 0), 0, 1, 2), told(b, 2))},
		{deep(both(b, a), 200), atoms, deep(both(told(b, 2), told(a, 1, 2)), 200)},
	} {
		if got, want := show(sign.Tell(x.p, x.atoms)), show(x.want); got != want {
			t.Errorf("%d: %.600s, not %.600s", i, got, want)
		}
		checkTell(t, x.p, x.atoms)
	}
}

// P10.1: a form of one book, told by another one's atoms, and one that was told by others ahead of this.
func TestOtherBooksAtoms(t *testing.T) {
	x, y := read(t, "3 [a-e] \u00d7 [c]"), read(t, "3 [d-h]+ \u00f7 .")
	one, two, both := take(t, x), take(t, y), take(t, x, y)
	for _, l := range [][][]api.Range{one, two, both} {
		for _, z := range []api.Book{x, y} {
			got := sign.Book(z, l)
			if showBook(got) != showBook(bookBy(z, l)) {
				t.Error(showBook(got))
			}
			for _, again := range [][][]api.Range{one, two, both, nil} {
				if other := sign.Book(got, again); showBook(other) != showBook(sign.Book(z, again)) {
					t.Error(showBook(other))
				}
			}
		}
	}
	// d to e are in the first set, and not the least ones of their atom.
	if got := sign.Tell(x.Rules[0].Before, two); !slices.Equal(got.Signs, []int{1}) || two[1][0].Low != 'd' {
		t.Error(got, two)
	}
	if got := sign.Tell(y.Rules[0].Before, one); len(got.Kids[0].Signs) != 0 {
		t.Error(got, one)
	}
}

// P10.1: a book, told: its rules' forms, and nothing else of it.
func TestBook(t *testing.T) {
	x := read(t, "$v=[ae]\n#allow idle\n$w=$v+\n10 $w \u00d7 .\n$x=[b]\n9.25 \u00f7 $v|()\n#allow dead 9.25\n0 [^$x]? \u00d7")
	atoms := take(t, x)
	y := sign.Book(x, atoms)
	for i, want := range []string{
		"\"v\" {2 [{97 97} {101 101}] [] } true at 0",
		"\"w\" {6 [] [] {2 [{97 97} {101 101}] [] }} false at 20",
		"\"x\" {2 [{98 98}] [] } true at 38",
		"0 false {7 [] [] {2 [{0 97} {99 1114111}] [0 1] }} {1 [] [] } at 76",
		"9250 true {1 [] [] } {4 [] [] {2 [{97 97} {101 101}] [1] }{1 [] [] }} at 45",
		"10000 false {6 [] [] {2 [{97 97} {101 101}] [1] }} {2 [{0 1114111}] [0 1 2] } at 27",
		"3 \"idle\" -1 false <0 \"\" 0 0 > <0 \"\" 0 0 > at 8",
		"3 \"dead\" 9250 false <0 \"\" 0 0 > <0 \"\" 0 0 > at 59",
		"[\"v\" \"w\" \"x\"]",
	} {
		if got := strings.Split(showBook(y), "\n")[i]; got != want {
			t.Errorf("%d: %s, not %s", i, got, want)
		}
	}
	// Books as no one builds them: what isn't a rule's form stays, whatever it is.
	odd := api.Book{
		Vars:   []api.Var{{Name: "v", Pat: told(chars('a', 'a'), 9, 9), Pos: 4}, {Name: "v", Pat: told(pat(55, chars(0, 9)), 1), Set: true, Pos: -4}},
		Rules:  []api.Rule{{Number: 9, Cut: true, Before: told(chars('a', 'b'), 5), After: told(pat(api.PatEmpty), 5), Pos: 3}, {Number: -9, Pos: 2}, {Number: 9}},
		Allows: []api.Item{{Kind: 7, Name: "x", Number: 3, Cut: true, Before: api.Node{Kind: 4, Kids: []api.Node{{Kind: 9}}}, After: api.Node{Name: "y"}, Pos: 8}},
		Used:   []string{"z", "z", ""},
	}
	for _, l := range append(notAtoms(), atoms) {
		for _, z := range []api.Book{x, odd, {}, {Rules: make([]api.Rule, 40)}} {
			if got := sign.Book(z, l); showBook(got) != showBook(bookBy(z, l)) {
				t.Errorf("%s, not %s", showBook(got), showBook(bookBy(z, l)))
			}
		}
	}
}

// P10.1: Word is the numbers of the atoms that have the characters, or ErrArg and nothing.
func TestWord(t *testing.T) {
	atoms := sets(set(0, 'a'-1, 'd', api.Top), set('a', 'a', 'c', 'c'), set('b', 'b'))
	lists := sets(nil, set(9, 9, 3, 4), set(4, 6), set(5, 4), every(20, 401))
	for i, x := range []struct {
		atoms   [][]api.Range
		l, want []int
		e       api.Errno
	}{
		{atoms, nil, nil, api.OK},
		{atoms, []int{}, nil, api.OK},
		{nil, nil, nil, api.OK},
		{sets(nil), []int{}, nil, api.OK},
		{atoms, []int{'b'}, []int{2}, api.OK},
		{atoms, []int{0, 'a' - 1, 'a', 'b', 'c', 'd', api.Top}, []int{0, 0, 1, 2, 1, 0, 0}, api.OK},
		{atoms, slices.Repeat([]int{'c', 'b'}, 5000), slices.Repeat([]int{1, 2}, 5000), api.OK},
		{atoms, []int{-1}, nil, api.ErrArg},
		{atoms, []int{api.Top + 1}, nil, api.ErrArg},
		{atoms, []int{'a', 'b', -1}, nil, api.ErrArg},
		{atoms, []int{api.Top + 1, 'a'}, nil, api.ErrArg},
		{atoms, []int{'a', math.MinInt, 'b'}, nil, api.ErrArg},
		{atoms, []int{'a', math.MaxInt, 'b'}, nil, api.ErrArg},
		{nil, []int{'a'}, nil, api.ErrArg},
		{sets(nil, nil), []int{0}, nil, api.ErrArg},
		{lists, []int{3, 4, 5, 6, 9}, []int{1, 1, 2, 2, 1}, api.OK}, // of two that have it the first one, as layer 2's Class tells
		{lists, []int{3, 7}, nil, api.ErrArg},
		{lists, []int{20}, nil, api.ErrArg},
		{sets(set(-5, api.Top+5)), []int{0, api.Top}, []int{0, 0}, api.OK},
		{sets(set(-5, api.Top+5)), []int{0, -1}, nil, api.ErrArg},
		{sets(set(-5, api.Top+5)), []int{api.Top + 1}, nil, api.ErrArg},
		{append(slices.Repeat(sets(nil), 300), set(7, 7)), []int{7, 7}, []int{300, 300}, api.OK},
	} {
		if got, e := sign.Word(x.atoms, x.l); e != x.e || !slices.Equal(got, x.want) {
			t.Errorf("%d: %.300v %d, not %.300v %d", i, got, e, x.want, x.e)
		}
	}
}

// P10.1: Chars is the least characters of the atoms of these numbers, or ErrArg and nothing.
func TestChars(t *testing.T) {
	atoms := sets(set(0, 'a'-1, 'd', api.Top), set('a', 'a', 'c', 'c'), set('b', 'b'))
	lists := sets(nil, set(9, 9, 3, 4), set(5, 4), set(-5, 6), every(20, 401), set(-5, -1), set(api.Top+1, api.Top+1), set(), every(20, 400))
	for i, x := range []struct {
		atoms   [][]api.Range
		l, want []int
		e       api.Errno
	}{
		{atoms, nil, nil, api.OK},
		{atoms, []int{}, nil, api.OK},
		{nil, nil, nil, api.OK},
		{sets(nil), []int{}, nil, api.OK},
		{atoms, []int{1}, []int{'a'}, api.OK},
		{atoms, []int{2, 0, 1, 2, 0}, []int{'b', 0, 'a', 'b', 0}, api.OK},
		{atoms, slices.Repeat([]int{1, 0}, 5000), slices.Repeat([]int{'a', 0}, 5000), api.OK},
		{atoms, []int{-1}, nil, api.ErrArg},
		{atoms, []int{3}, nil, api.ErrArg},
		{atoms, []int{4}, nil, api.ErrArg},
		{atoms, []int{2, 1, 3}, nil, api.ErrArg},
		{atoms, []int{-1, 2, 1}, nil, api.ErrArg},
		{atoms, []int{0, math.MinInt, 1}, nil, api.ErrArg},
		{atoms, []int{0, math.MaxInt, 1}, nil, api.ErrArg},
		{nil, []int{0}, nil, api.ErrArg},
		{nil, []int{-1}, nil, api.ErrArg},
		{lists, []int{1, 3, 8}, []int{3, 0, 20}, api.OK},
		{lists, []int{0}, nil, api.ErrArg},
		{lists, []int{1, 2}, nil, api.ErrArg},
		{lists, []int{1, 4}, nil, api.ErrArg},
		{lists, []int{1, 5}, nil, api.ErrArg},
		{lists, []int{6, 1}, nil, api.ErrArg},
		{lists, []int{7}, nil, api.ErrArg},
		{append(slices.Repeat(sets(nil), 300), set(7, 7)), []int{300}, []int{7}, api.OK},
		{append(slices.Repeat(sets(nil), 300), set(7, 7)), []int{300, 299}, nil, api.ErrArg},
	} {
		if got, e := sign.Chars(x.atoms, x.l); e != x.e || !slices.Equal(got, x.want) {
			t.Errorf("%d: %.300v %d, not %.300v %d", i, got, e, x.want, x.e)
		}
	}
}

// P10.1: all calls on many made forms, books and lists, whatever is in them, against the document's words.
func TestMadeForms(t *testing.T) {
	var manySets, manySigns int
	for seed := range uint32(4000) {
		m := &maker{seed * 2654435761}
		few := m.many(1 + m.next(6))
		p, lists := m.form(few, 5), m.many(m.next(6))
		checkSets(t, p)
		checkTell(t, p, lists)
		x, y := m.book(few), m.book(append(m.many(2), few...))
		if got := sign.Book(x, lists); showBook(got) != showBook(bookBy(x, lists)) {
			t.Fatal(showBook(got))
		}
		var forms []api.Pat
		for _, r := range slices.Concat(x.Rules, y.Rules) {
			forms = append(forms, r.Before, r.After)
		}
		all := setsIn(forms...)
		atoms, e := sign.Of([]api.Book{x, y})
		// The atoms of all sets are those of one form that has them all.
		want, f := sign.Of(books([]api.Pat{of(all...), {}}))
		if e != f || !sameSets(atoms, want) || e != api.OK {
			t.Fatal(atoms, e, want, f)
		}
		checkTell(t, p, atoms)
		manySets = max(manySets, len(all))
		for _, l := range toldBy(of(all...), atoms).Kids {
			manySigns = max(manySigns, len(l.Signs))
		}
	}
	if manySets < 7 || manySigns < 7 {
		t.Error(manySets, manySigns)
	}
}

// P10.1: Word and Chars of many lists, atoms or not, against the document's words.
func TestMadeLists(t *testing.T) {
	var met [16]int
	for seed := range uint32(4000) {
		m := &maker{seed * 2246822519}
		lists := m.many(m.next(7))
		if m.next(2) == 0 {
			lists = take(t, books([]api.Pat{of(lists...), {}})...)
		}
		var word, signs, wantWord, wantChars []int
		wordE, charsE := api.OK, api.OK
		for range m.next(5) {
			c := []int{0, api.Top - 10}[m.next(2)] + m.next(13) - 1
			n := slices.IndexFunc(lists, func(l []api.Range) bool { return has(l, c) })
			word, wantWord = append(word, c), append(wantWord, n)
			if n < 0 {
				wordE = api.ErrArg
			}
			s := m.next(9) - 1
			signs, wantChars = append(signs, s), append(wantChars, -1)
			if s < 0 || s >= len(lists) || first(lists[s]) < 0 {
				charsE = api.ErrArg
			} else {
				wantChars[len(wantChars)-1] = first(lists[s])
			}
		}
		if wordE != api.OK {
			wantWord = nil
		}
		if charsE != api.OK {
			wantChars = nil
		}
		if got, e := sign.Word(lists, word); e != wordE || !slices.Equal(got, wantWord) {
			t.Fatalf("%v, %v: %v %d, not %v %d", lists, word, got, e, wantWord, wordE)
		}
		if got, e := sign.Chars(lists, signs); e != charsE || !slices.Equal(got, wantChars) {
			t.Fatalf("%v, %v: %v %d, not %v %d", lists, signs, got, e, wantChars, charsE)
		}
		met[min(len(wantWord), 3)]++
		met[4+min(len(wantChars), 3)]++
	}
	if slices.Min(met[:8]) < 100 {
		t.Error(met)
	}
}

// probes: characters at which one of the lists may change, those beside them, and the ends.
func probes(lists [][]api.Range) []int {
	all := []int{0, 1, api.Top - 1, api.Top}
	for _, l := range lists {
		for _, r := range l {
			for _, c := range []int{r.Low, r.High} {
				if c > 0 && c < api.Top {
					all = append(all, c-1, c, c+1)
				}
			}
		}
	}
	slices.Sort(all)
	return slices.Compact(all)
}

// pats: all PatSets of a form.
func pats(p api.Pat) []api.Pat {
	var l []api.Pat
	if p.Kind == api.PatSet {
		l = append(l, p)
	}
	for _, k := range p.Kids {
		l = append(l, pats(k)...)
	}
	return l
}

// checkThereAndBack: P10.2 of books: of each sign's character this sign; of each character, and each told set of theirs, whether both say the same.
func checkThereAndBack(t *testing.T, l ...api.Book) {
	t.Helper()
	atoms := take(t, l...)
	var signs []int
	for n := range atoms {
		signs = append(signs, n)
	}
	least, e := sign.Chars(atoms, signs)
	if e != api.OK || len(least) != len(signs) || !slices.IsSorted(least) {
		t.Fatalf("%v: %v %d", atoms, least, e)
	}
	if back, e := sign.Word(atoms, least); e != api.OK || !slices.Equal(back, signs) {
		t.Fatalf("%v: %v %d", atoms, back, e)
	}
	var all []api.Pat
	for _, x := range l {
		for _, r := range sign.Book(x, atoms).Rules {
			all = append(all, pats(r.Before)...)
			all = append(all, pats(r.After)...)
		}
	}
	var every [][]api.Range
	for _, p := range all {
		every = append(every, p.Set)
	}
	places := probes(slices.Concat(every, atoms))
	word, e := sign.Word(atoms, places)
	if e != api.OK || len(word) != len(places) {
		t.Fatalf("%v: %v %d", places, word, e)
	}
	for i, c := range places {
		if !has(atoms[word[i]], c) || least[word[i]] > c {
			t.Fatalf("%v: %d has %d", atoms, c, word[i])
		}
	}
	for _, p := range all {
		if !slices.IsSorted(p.Signs) {
			t.Fatal(p)
		}
		for i, c := range places {
			if has(p.Set, c) != slices.Contains(p.Signs, word[i]) {
				t.Fatalf("%v, %d: %v has %d", p, c, p.Signs, word[i])
			}
		}
	}
}

// P10.2: of texts' books, of one and of two.
func TestThereAndBack(t *testing.T) {
	var l []api.Book
	for _, s := range []string{
		"", "3 \u00d7", "3 . \u00d7 .", "3 [] \u00f7 [^]", "3 [a-c] \u00d7 [b]", "1 [0-9] \u00d7\n2 [^0-5] \u00f7 ([3]|[4-7])+",
		"$v=[aeiou]\n$l=[a-z]\n3 $l $v* \u00d7 .\n4 $v \u00f7 $l|()\n5 [$l-$v] \u00d7 [$l&[b-y]]",
		"3 [\\u{0}\\u{10ffff}] \u00d7 [\\u{0}-\\u{10fffe}]\n4 [\\u{d800}-\\u{dfff}] \u00f7 [^\\u{d800}]",
		"$a=[a-m]\n$b=[$a n-z]\n$c=[[$b-$a] A-Z]\n9 (($a|$b)* $c?)+ \u00f7 [^$c] \n1 \u00f7 [$a&$b&[c]]",
	} {
		l = append(l, read(t, s))
	}
	for _, x := range l {
		checkThereAndBack(t, x)
		for _, y := range l {
			checkThereAndBack(t, x, y)
		}
	}
	checkThereAndBack(t)
	checkThereAndBack(t, l...)
}

// P10.2: of many made books, and of the most sets, ranges and atoms.
func TestThereAndBackOfMany(t *testing.T) {
	for seed := range uint32(3000) {
		m := &maker{seed * 3266489917}
		few := m.many(1 + m.next(6))
		checkThereAndBack(t, m.book(few), m.book(append(m.many(2), few...)))
	}
	var single [][]api.Range
	for i := range 60 {
		single = append(single, set(3*i, 4*i))
	}
	checkThereAndBack(t, books([]api.Pat{of(single...), {}})...)
	checkThereAndBack(t, books([]api.Pat{of(bits(199)...), of(every(2, 99))})...)
	checkThereAndBack(t, books([]api.Pat{of(every(0, 400)), chars()}, []api.Pat{of(every(0, 399)), chars(9, 9)})...)
}

// knot: a form within so many others, each of which has it twice, so that it is many.
func knot(p api.Pat, many int) api.Pat {
	for i := range many {
		p = pat(api.PatJoin+i%5, p, p)
	}
	return p
}

// P10.1: calls end, of forms whose Kids stand at one place in memory, too, that are more than can be gone through.
func TestSharedKidsEnd(t *testing.T) {
	atoms := sets(set(0, 'a'-1, 'd', api.Top), set('a', 'a', 'c', 'c'), set('b', 'b'))
	p := knot(both(chars('b', 'b'), told(chars('a', 'c'), 9)), 190)
	if got := sign.Sets(p); !sameSets(got, sets(set('b', 'b'), set('a', 'c'))) {
		t.Error(got)
	}
	x := books([]api.Pat{p, deep(p, 9)}, []api.Pat{knot(p, 9), p})
	if got := take(t, x...); !sameSets(got, atoms) {
		t.Error(got)
	}
	for side := range 2 {
		got := sign.Tell(p, atoms)
		for i := range 190 {
			if got.Kind != api.PatJoin+(189-i)%5 || len(got.Kids) != 2 || len(got.Signs) != 0 {
				t.Fatal(i, got.Kind, len(got.Kids))
			}
			got = got.Kids[side]
		}
		if show(got) != show(both(told(chars('b', 'b'), 2), told(chars('a', 'c'), 1, 2))) {
			t.Error(show(got))
		}
	}
	if y := sign.Book(x[1], atoms); len(y.Rules[0].Before.Kids) != 2 {
		t.Error(len(y.Rules))
	}
	// Lists that begin at one place, but are not as long, are not the same.
	kids := []api.Pat{chars('b', 'b'), chars('a', 'c'), chars('x', 'x')}
	q := both(both(kids[:1]...), both(kids[:2]...), both(kids...))
	for _, many := range []int{0, 1, 15, 17, 100} {
		form := both(knot(chars(), many), q)
		if got := sign.Sets(form); !sameSets(got, sets(nil, set('b', 'b'), set('a', 'c'), set('x', 'x'))) {
			t.Error(got)
		}
		if got := sign.Tell(form, atoms).Kids[1]; show(got) != show(toldBy(q, atoms)) {
			t.Error(many, show(got))
		}
	}
}

// P10.1: forms of more nodes than are told in memory of their own.
func TestManyNodes(t *testing.T) {
	var kids []api.Pat
	for i := range 150000 {
		kids = append(kids, both(chars(i%50, i%50+3)))
	}
	checkTell(t, both(kids...), sets(set(3, 9), set(0, 2), set(20, api.Top)))
	if got := sign.Sets(both(kids...)); len(got) != 50 || got[49][0].Low != 49 {
		t.Error(len(got))
	}
	checkTell(t, knot(chars('a', 'b'), 14), sets(set('b', 'b'), set('a', 'a')))
}

// memory: of each place in it which list stands there.
type memory map[any]string

// stand: that a list, of its whole room, shares none with what stands there already.
func stand[T any](t *testing.T, where memory, what string, l []T) {
	t.Helper()
	l = l[:cap(l)]
	for i := range l {
		if other, already := where[&l[i]]; already {
			t.Fatalf("%s and %s share memory", other, what)
		}
		where[&l[i]] = what
	}
}

func (where memory) pat(t *testing.T, what string, p api.Pat) {
	t.Helper()
	stand(t, where, what+" set", p.Set)
	stand(t, where, what+" signs", p.Signs)
	stand(t, where, what+" kids", p.Kids)
	for _, k := range p.Kids {
		where.pat(t, what, k)
	}
}

// room: a list with spare room behind it, filled by this.
func room[T any](fill T, l ...T) []T { return append(slices.Clone(l), fill)[: len(l) : len(l)+1] }

// shared: a form that shares its lists, with spare room behind all of them.
func shared() api.Pat {
	spare := api.Range{Low: -7, High: -7}
	l := room(spare, set('a', 'c', 'x', 'x')...)
	a := api.Pat{Kind: api.PatSet, Set: l, Signs: room(-7, 5, 6)}
	b := api.Pat{Kind: api.PatSet, Set: l[:1], Signs: a.Signs[:1]}
	kids := room(api.Pat{Kind: -7}, a, b, a)
	return api.Pat{Kind: api.PatJoin, Signs: a.Signs, Kids: room(api.Pat{Kind: -7}, pat(api.PatStar, kids...), pat(api.PatOr, kids...), pat(api.PatOr, kids[1:]...), a)}
}

// showRoom: all that is in a form, and in the spare room of its lists.
func showRoom(p api.Pat) string {
	p.Set, p.Signs = p.Set[:cap(p.Set)], p.Signs[:cap(p.Signs)]
	s := fmt.Sprint(p.Kind, p.Set, p.Signs, len(p.Kids))
	for _, k := range p.Kids[:cap(p.Kids)] {
		s += showRoom(k)
	}
	return "{" + s + "}"
}

// What is handed in isn't changed, its spare room neither; what is answered of sets and forms is new memory, and no two lists of it share any; nothing is kept.
func TestWhatIsHandedInStays(t *testing.T) {
	p := shared()
	before := showRoom(p)
	l := room(sets(set(-7, -7))[0], set(0, 'a'-1, 'y', api.Top), room(api.Range{Low: -7}, set('b', 'c', 'a', 'a')...), set('x', 'x'))
	spare := func() string { return fmt.Sprint(l[:cap(l)], l[1][:cap(l[1])]) }
	lists := spare()
	unchanged := func() {
		t.Helper()
		if showRoom(p) != before || spare() != lists {
			t.Fatal("an argument changed")
		}
	}
	where := memory{}
	got := sign.Tell(p, l)
	where.pat(t, "answer", got)
	shown := show(got)
	if shown != show(toldBy(p, l)) {
		t.Error(shown)
	}
	all := sign.Sets(p)
	if !sameSets(all, sets(p.Kids[3].Set, p.Kids[3].Set[:1])) {
		t.Error(all)
	}
	stand(t, where, "sets", all)
	for _, x := range all {
		stand(t, where, "set", x)
	}
	atoms, e := sign.Of(books([]api.Pat{p, p}))
	if e != api.OK || len(atoms) != 3 {
		t.Error(atoms, e)
	}
	stand(t, where, "atoms", atoms)
	for _, x := range atoms {
		stand(t, where, "atom", x)
	}
	unchanged()
	for _, x := range append(all, atoms...) {
		clear(x[:cap(x)])
	}
	spoil(got)
	unchanged()
	if show(sign.Tell(p, l)) != shown {
		t.Error("something was kept")
	}
	word, signs := room[int](-7, 'a', 'x', 'b'), room(-7, 2, 1)
	numbers, _ := sign.Word(l, word)
	chars, _ := sign.Chars(l, signs)
	if !slices.Equal(numbers, []int{1, 2, 1}) || !slices.Equal(chars, []int{'x', 'a'}) {
		t.Error(numbers, chars)
	}
	clear(numbers[:cap(numbers)])
	clear(chars[:cap(chars)])
	if fmt.Sprint(word[:4], signs[:3]) != fmt.Sprint([]int{'a', 'x', 'b', -7}, []int{2, 1, -7}) {
		t.Error(word, signs)
	}
	unchanged()
}

// spoil: all that a form's lists hold, and their spare room.
func spoil(p api.Pat) {
	for _, k := range p.Kids {
		spoil(k)
	}
	clear(p.Set[:cap(p.Set)])
	clear(p.Signs[:cap(p.Signs)])
	clear(p.Kids[:cap(p.Kids)])
}

// A book's lists stay as they were, their spare room too; those of the answer are others, and its rules' forms share nothing.
func TestBookThatIsHandedInStays(t *testing.T) {
	p := shared()
	x := api.Book{
		Vars:   room(api.Var{Name: "spare"}, api.Var{Name: "v", Pat: p}),
		Rules:  room(api.Rule{Number: -7}, api.Rule{Number: 3, Before: p, After: p}, api.Rule{Number: 4, Before: p.Kids[0], After: p}),
		Allows: room(api.Item{Name: "spare"}, api.Item{Kind: api.ItemAllow, Name: "dead", Number: -1}),
		Used:   room("spare", "v"),
	}
	whole := func() string {
		return fmt.Sprint(showBook(api.Book{Vars: x.Vars[:2], Rules: x.Rules[:3], Allows: x.Allows[:2], Used: x.Used[:2]}), showRoom(p))
	}
	before := whole()
	atoms := take(t, x)
	y := sign.Book(x, atoms)
	if showBook(y) != showBook(bookBy(x, atoms)) || whole() != before {
		t.Fatal(showBook(y))
	}
	where := memory{}
	for _, r := range y.Rules {
		where.pat(t, "before", r.Before)
		where.pat(t, "after", r.After)
	}
	for _, r := range y.Rules {
		spoil(r.Before)
		spoil(r.After)
	}
	clear(y.Vars[:cap(y.Vars)])
	clear(y.Rules[:cap(y.Rules)])
	clear(y.Allows[:cap(y.Allows)])
	clear(y.Used[:cap(y.Used)])
	if whole() != before {
		t.Fatal("an argument changed")
	}
	if z := sign.Book(x, atoms); showBook(z) != showBook(bookBy(x, atoms)) {
		t.Error(showBook(z))
	}
}
