package reach_test

import (
	"fmt"
	"math"
	"slices"
	"strings"
	"testing"

	"caesura/api"
	"caesura/reach"
	"caesura/rule"
	"caesura/sign"
)

// signs, pat, row, or, star, plus, maybe: forms, written down.
func signs(l ...int) api.Pat { return api.Pat{Kind: api.PatSet, Signs: l} }

func pat(kind int, kids ...api.Pat) api.Pat { return api.Pat{Kind: kind, Kids: kids} }

func row(kids ...api.Pat) api.Pat { return pat(api.PatJoin, kids...) }

func or(kids ...api.Pat) api.Pat { return pat(api.PatOr, kids...) }

func star(kids ...api.Pat) api.Pat { return pat(api.PatStar, kids...) }

func plus(kids ...api.Pat) api.Pat { return pat(api.PatPlus, kids...) }

func maybe(kids ...api.Pat) api.Pat { return pat(api.PatMaybe, kids...) }

var empty = pat(api.PatEmpty)

// deep: a form within so many others, of these kinds by turns, the first one next to it.
func deep(p api.Pat, many int, kinds ...int) api.Pat {
	for i := range many {
		p = pat(kinds[i%len(kinds)], p)
	}
	return p
}

// knot: a form, twice over in one of this kind, this twice over in the next one, and so on; Kids stand at one place.
func knot(p api.Pat, many int, kinds ...int) api.Pat {
	for i := range many {
		p = pat(kinds[i%len(kinds)], p, p)
	}
	return p
}

// times: so many of one sign.
func times(n, sign int) []int { return slices.Repeat([]int{sign}, n) }

// upTo: 0 to n.
func upTo(n int) []int {
	var l []int
	for i := range n + 1 {
		l = append(l, i)
	}
	return l
}

// back: a list, the other way round.
func back[T any](l []T) []T {
	var r []T
	for _, x := range l {
		r = append([]T{x}, r...)
	}
	return r
}

// show: all that is in a form, as a text.
func show(p api.Pat) string {
	var s strings.Builder
	for _, k := range p.Kids {
		s.WriteString(show(k))
	}
	return fmt.Sprintf("{%d %v %v %s}", p.Kind, p.Set, p.Signs, s.String())
}

// does: the document's words: does a form match all of a list?
func does(p api.Pat, l []int) bool {
	one := len(p.Kids) == 1
	switch {
	case p.Kind == 1:
		return len(l) == 0
	case p.Kind == 2:
		return len(l) == 1 && slices.Contains(p.Signs, l[0])
	case p.Kind == 3 && len(p.Kids) == 0:
		return len(l) == 0
	case p.Kind == 3:
		return parted(l, 0, p.Kids[0], row(p.Kids[1:]...))
	case p.Kind == 4:
		return slices.ContainsFunc(p.Kids, func(k api.Pat) bool { return does(k, l) })
	case p.Kind == 5 && one:
		// What matches no sign adds nothing, so that each time may be of one sign at least.
		return len(l) == 0 || parted(l, 1, p.Kids[0], p)
	case p.Kind == 6 && one:
		return parted(l, 0, p.Kids[0], star(p.Kids[0]))
	case p.Kind == 7 && one:
		return len(l) == 0 || does(p.Kids[0], l)
	}
	return false
}

// parted: is the list of at least so many signs that one form matches, and of others that another one does?
func parted(l []int, least int, first, then api.Pat) bool {
	for i := least; i <= len(l); i++ {
		if does(first, l[:i]) && does(then, l[i:]) {
			return true
		}
	}
	return false
}

// turnedBy: the document's words for a form turned round.
func turnedBy(p api.Pat) api.Pat {
	var kids []api.Pat
	for _, k := range p.Kids {
		kids = append(kids, turnedBy(k))
	}
	if p.Kind == 3 {
		kids = back(kids)
	}
	return api.Pat{Kind: p.Kind, Set: p.Set, Signs: p.Signs, Kids: kids}
}

// checkTurn: Turn against the document's words.
func checkTurn(t *testing.T, p api.Pat) {
	t.Helper()
	if got, want := show(reach.Turn(p)), show(turnedBy(p)); got != want {
		t.Errorf("%.900s turned round: %.900s, not %.900s", show(p), got, want)
	}
}

// check: each call against the document's words, from and to each place, and such as are none.
func check(t *testing.T, p api.Pat, l []int) {
	t.Helper()
	n := len(l)
	if got, want := reach.Null(p), does(p, nil); got != want {
		t.Errorf("%.900s: Null %v", show(p), got)
	}
	places := append(upTo(n), -1, n+1, math.MinInt, math.MaxInt)
	for _, a := range places {
		var ends, begins []int
		for b := range n + 1 {
			if a >= 0 && a <= b && does(p, l[a:b]) {
				ends = append(ends, b)
			}
			if a >= b && a <= n && does(p, l[b:a]) {
				begins = append(begins, b)
			}
		}
		if got := reach.Ends(p, l, a); !slices.Equal(got, ends) {
			t.Errorf("%.900s over %v: Ends from %d %v, not %v", show(p), l, a, got, ends)
		}
		if got := reach.Begins(p, l, a); !slices.Equal(got, begins) {
			t.Errorf("%.900s over %v: Begins to %d %v, not %v", show(p), l, a, got, begins)
		}
		for _, b := range places {
			if got := reach.Matches(p, l, a, b); got != slices.Contains(ends, b) {
				t.Errorf("%.900s over %v: Matches from %d to %d %v", show(p), l, a, b, got)
			}
		}
	}
}

// maker makes things of a number.
type maker struct{ seed uint32 }

func (m *maker) next(n int) int {
	m.seed = m.seed*1664525 + 1013904223
	return int((m.seed >> 16) % uint32(n))
}

// list: up to n signs, few of them.
func (m *maker) list(n int) []int {
	var l []int
	for range m.next(n + 1) {
		l = append(l, m.next(3))
	}
	return l
}

// form: one, of all kinds and of others, some of them without just one Kid.
func (m *maker) form(depth int) api.Pat {
	p := api.Pat{Kind: 1 + m.next(7)}
	if m.next(30) == 0 {
		p.Kind = []int{0, -1, 8, 12, math.MinInt, math.MaxInt}[m.next(6)]
	}
	if depth == 0 && m.next(4) > 0 {
		p.Kind = api.PatSet
	}
	if p.Kind == api.PatSet || m.next(9) == 0 {
		p.Signs = m.list(2)
		p.Set = []api.Range{{Low: m.next(5), High: m.next(5)}}
	}
	if depth == 0 || p.Kind < api.PatJoin && m.next(9) > 0 {
		return p
	}
	kids := m.next(4)
	if p.Kind >= api.PatStar && m.next(9) > 0 {
		kids = 1
	}
	for range kids {
		p.Kids = append(p.Kids, m.form(depth-1))
	}
	return p
}

// P11.1: the document's example.
func TestExample(t *testing.T) {
	p := star(row(signs(0), signs(1)))
	if got := reach.Ends(p, []int{0, 1, 0, 1}, 0); !slices.Equal(got, []int{0, 2, 4}) {
		t.Error(got)
	}
	x, at, e := rule.Read([]byte("3 ([a][b])* \u00d7"))
	if e != api.OK {
		t.Fatal(at, e)
	}
	atoms, _ := sign.Of([]api.Book{x})
	l, _ := sign.Word(atoms, []int{'a', 'b', 'a', 'b'})
	if got := reach.Ends(sign.Tell(x.Rules[0].Before, atoms), l, 0); !slices.Equal(got, []int{0, 2, 4}) {
		t.Error(l, got)
	}
}

// P11.1: Ends and Begins, written out, so that no fault of the checks hides one.
func TestWrittenOut(t *testing.T) {
	a, b, ab := signs(1), signs(2), row(signs(1), signs(2))
	none := or()
	for i, x := range []struct {
		p            api.Pat
		l            []int
		at           int
		ends, begins []int
	}{
		{empty, nil, 0, []int{0}, []int{0}},
		{empty, []int{1, 2}, 1, []int{1}, []int{1}},
		{pat(api.PatEmpty, a), []int{1, 1}, 1, []int{1}, []int{1}},
		{a, []int{1, 2, 1}, 0, []int{1}, nil},
		{a, []int{1, 2, 1}, 1, nil, []int{0}},
		{a, []int{1, 2, 1}, 2, []int{3}, nil},
		{a, []int{1, 2, 1}, 3, nil, []int{2}},
		{signs(), []int{0, 0}, 1, nil, nil},
		{api.Pat{Kind: api.PatSet, Set: []api.Range{{Low: 0, High: 9}}}, []int{0, 1}, 1, nil, nil},
		{signs(2, 1, 2), []int{1, 2}, 1, []int{2}, []int{0}},
		{api.Pat{Kind: api.PatSet, Signs: []int{1}, Kids: []api.Pat{b}}, []int{1, 2}, 1, nil, []int{0}},
		{signs(math.MinInt, math.MaxInt, -1), []int{math.MinInt, math.MaxInt, -1}, 1, []int{2}, []int{0}},
		{row(), []int{1, 1}, 1, []int{1}, []int{1}},
		{row(a), []int{1, 1}, 1, []int{2}, []int{0}},
		{ab, []int{1, 2, 1, 2}, 2, []int{4}, []int{0}},
		{ab, []int{2, 1, 2, 1}, 2, nil, nil},
		{row(a, none), []int{1, 1}, 1, nil, nil},
		{row(none, a), []int{1, 1}, 1, nil, nil},
		{row(a, empty, row(), b), []int{1, 2, 1, 2}, 2, []int{4}, []int{0}},
		{none, []int{1, 1}, 1, nil, nil},
		{or(a), []int{1, 1}, 1, []int{2}, []int{0}},
		{or(none, a), []int{1, 1}, 1, []int{2}, []int{0}},
		{or(row(a, b), a, empty, a), []int{1, 2, 1, 2}, 2, []int{2, 3, 4}, []int{0, 2}},
		{or(row(b, a), a, empty), []int{2, 1, 2, 1}, 2, []int{2, 4}, []int{0, 1, 2}},
		{star(a), []int{1, 1, 2, 1, 1}, 2, []int{2}, []int{0, 1, 2}},
		{star(a), []int{1, 1, 2, 1, 1}, 3, []int{3, 4, 5}, []int{3}},
		{plus(a), []int{1, 1, 2, 1, 1}, 2, nil, []int{0, 1}},
		{plus(a), []int{1, 1, 2, 1, 1}, 3, []int{4, 5}, nil},
		{maybe(a), []int{1, 1, 2, 1, 1}, 2, []int{2}, []int{1, 2}},
		{maybe(a), []int{1, 1, 2, 1, 1}, 3, []int{3, 4}, []int{3}},
		{star(none), []int{1, 1}, 1, []int{1}, []int{1}},
		{plus(none), []int{1, 1}, 1, nil, nil},
		{maybe(none), []int{1, 1}, 1, []int{1}, []int{1}},
		{star(empty), []int{1, 1}, 1, []int{1}, []int{1}},
		{plus(empty), []int{1, 1}, 1, []int{1}, []int{1}},
		{maybe(empty), []int{1, 1}, 1, []int{1}, []int{1}},
		{star(plus(star(a))), []int{1, 1, 1, 1}, 2, []int{2, 3, 4}, []int{0, 1, 2}},
		{plus(star(plus(a))), []int{1, 1, 1, 1}, 2, []int{2, 3, 4}, []int{0, 1, 2}},
		{plus(plus(a)), []int{1, 1, 1, 1}, 2, []int{3, 4}, []int{0, 1}},
		{plus(maybe(a)), []int{1, 1, 1, 1}, 2, []int{2, 3, 4}, []int{0, 1, 2}},
		{row(star(a), star(b)), []int{1, 2, 1, 2, 2}, 3, []int{3, 4, 5}, []int{2, 3}},
		{row(star(a), a), []int{1, 1, 1, 1}, 2, []int{3, 4}, []int{0, 1}},
		{row(plus(ab), maybe(a)), []int{1, 2, 1, 2, 1}, 0, []int{2, 3, 4, 5}, nil},
		{row(plus(ab), maybe(a)), []int{1, 2, 1, 2, 1}, 5, nil, []int{0, 2}},
		{star(a, b), []int{1, 1}, 1, nil, nil},
		{plus(a, a), []int{1, 1}, 1, nil, nil},
		{maybe(a, a), []int{1, 1}, 1, nil, nil},
		{star(), []int{1, 1}, 1, nil, nil},
		{plus(), []int{1, 1}, 1, nil, nil},
		{maybe(), []int{1, 1}, 1, nil, nil},
		{row(a, star(), empty), []int{1, 1}, 1, nil, nil},
		{or(a, plus(a, a)), []int{1, 1}, 1, []int{2}, []int{0}},
		{api.Pat{}, []int{1, 1}, 1, nil, nil},
		{pat(0, a), []int{1, 1}, 1, nil, nil},
		{pat(8, a), []int{1, 1}, 1, nil, nil},
		{pat(-1, a), []int{1, 1}, 1, nil, nil},
		{api.Pat{Kind: math.MaxInt, Signs: []int{1}}, []int{1, 1}, 1, nil, nil},
		{star(api.Pat{Kind: 9, Signs: []int{1}}), []int{1, 1}, 1, []int{1}, []int{1}},
	} {
		if got := reach.Ends(x.p, x.l, x.at); !slices.Equal(got, x.ends) {
			t.Errorf("%d: Ends %v, not %v", i, got, x.ends)
		}
		if got := reach.Begins(x.p, x.l, x.at); !slices.Equal(got, x.begins) {
			t.Errorf("%d: Begins %v, not %v", i, got, x.begins)
		}
		check(t, x.p, x.l)
	}
}

// P11.1: places that are none, and such at the ends.
func TestPlaces(t *testing.T) {
	a := star(signs(1))
	l := []int{1, 1}
	for _, at := range []int{math.MinInt, -2, -1, 3, 4, math.MaxInt} {
		for _, p := range []api.Pat{empty, a, signs(1), row()} {
			if e, b := reach.Ends(p, l, at), reach.Begins(p, l, at); len(e)+len(b) > 0 || reach.Matches(p, l, at, at) {
				t.Error(at, e, b)
			}
		}
		for _, there := range upTo(2) {
			if reach.Matches(a, l, at, there) || reach.Matches(a, l, there, at) {
				t.Error(at, there)
			}
		}
	}
	for _, x := range [][]int{{0, 0, 1}, {0, 1, 1}, {0, 2, 1}, {1, 1, 1}, {1, 2, 1}, {2, 2, 1}, {1, 0, 0}, {2, 0, 0}, {2, 1, 0}} {
		if got := reach.Matches(a, l, x[0], x[1]); got != (x[2] == 1) {
			t.Error(x, got)
		}
	}
	if e, b := reach.Ends(a, nil, 0), reach.Begins(a, []int{}, 0); !slices.Equal(e, []int{0}) || !slices.Equal(b, []int{0}) {
		t.Error(e, b)
	}
	if e, b := reach.Ends(empty, nil, 1), reach.Begins(empty, nil, 1); len(e)+len(b) > 0 || reach.Matches(empty, nil, 0, 1) || reach.Matches(empty, nil, 1, 1) {
		t.Error(e, b)
	}
	// The signs behind the place say nothing, those ahead of it neither.
	if e, b := reach.Ends(a, []int{1, 1, 1, 7, 1}, 1), reach.Begins(a, []int{1, 7, 1, 1, 1}, 4); !slices.Equal(e, []int{1, 2, 3}) || !slices.Equal(b, []int{2, 3, 4}) {
		t.Error(e, b)
	}
}

// P11.1: Null of each kind.
func TestNull(t *testing.T) {
	a := signs(1)
	for i, x := range []struct {
		p    api.Pat
		want bool
	}{
		{empty, true}, {pat(api.PatEmpty, a), true}, {a, false}, {signs(), false}, {pat(api.PatSet, empty), false},
		{row(), true}, {row(a), false}, {row(empty, star(a)), true}, {row(star(a), a), false}, {row(a, empty), false},
		{or(), false}, {or(a), false}, {or(a, empty), true}, {or(empty, a), true}, {or(a, or()), false},
		{star(a), true}, {star(or()), true}, {star(), false}, {star(empty, empty), false}, {star(api.Pat{}), true},
		{plus(a), false}, {plus(or()), false}, {plus(empty), true}, {plus(star(a)), true}, {plus(), false}, {plus(empty, empty), false},
		{maybe(a), true}, {maybe(or()), true}, {maybe(), false}, {maybe(empty, empty), false},
		{api.Pat{}, false}, {pat(8, empty), false}, {pat(-3), false}, {pat(math.MinInt, empty), false},
	} {
		if got := reach.Null(x.p); got != x.want {
			t.Errorf("%d: %v", i, got)
		}
	}
}

// P11.1: Turn, written out.
func TestTurn(t *testing.T) {
	a, b, c := signs(1, 4), api.Pat{Kind: api.PatSet, Set: []api.Range{{Low: 5, High: 7}, {Low: 9, High: 8}}, Signs: []int{3, 2, 3}}, signs(0)
	for i, x := range []struct{ p, want api.Pat }{
		{api.Pat{}, api.Pat{}},
		{empty, empty},
		{b, b},
		{row(), row()},
		{row(a), row(a)},
		{row(a, b, c), row(c, b, a)},
		{or(a, b, c), or(a, b, c)},
		{row(row(a, b), row(b, c, a), c), row(c, row(a, c, b), row(b, a))},
		{or(row(a, b), star(row(b, plus(row(a, c)))), maybe(row(c, a))), or(row(b, a), star(row(plus(row(c, a)), b)), maybe(row(a, c)))},
		{star(row(a, b), row(b, c)), star(row(b, a), row(c, b))},
		{pat(9, row(a, b), c), pat(9, row(b, a), c)},
		{pat(api.PatSet, row(a, b), c), pat(api.PatSet, row(b, a), c)},
		{pat(api.PatEmpty, row(a, b), c), pat(api.PatEmpty, row(b, a), c)},
		{api.Pat{Kind: api.PatJoin, Set: b.Set, Signs: b.Signs, Kids: []api.Pat{a, b}}, api.Pat{Kind: api.PatJoin, Set: b.Set, Signs: b.Signs, Kids: []api.Pat{b, a}}},
		{deep(row(a, b), 200, 3, 4, 5, 6, 7), deep(row(b, a), 200, 3, 4, 5, 6, 7)},
	} {
		if got := show(reach.Turn(x.p)); got != show(x.want) {
			t.Errorf("%d: %.900s, not %.900s", i, got, show(x.want))
		}
		checkTurn(t, x.p)
	}
}

// P11.1: forms that are deep: of one kind, and of all by turns, over what matches and what doesn't.
func TestDeep(t *testing.T) {
	a, l := signs(1), []int{1, 1, 2, 1}
	for i, x := range []struct {
		p    api.Pat
		want []int
	}{
		{deep(a, 200, 3), []int{1}},
		{deep(a, 200, 4), []int{1}},
		{deep(a, 200, 5), []int{0, 1, 2}},
		{deep(a, 200, 6), []int{1, 2}},
		{deep(a, 200, 7), []int{0, 1}},
		{deep(a, 200, 3, 4, 5, 6, 7), []int{0, 1, 2}},
		{deep(a, 200, 5, 6), []int{0, 1, 2}},
		{deep(a, 200, 6, 7), []int{0, 1, 2}},
		{deep(or(), 199, 5, 6), []int{0}},
		{deep(or(), 200, 6), nil},
		{deep(star(), 199, 3, 4, 6), nil},
	} {
		if got := reach.Ends(x.p, l, 0); !slices.Equal(got, x.want) {
			t.Errorf("%d: %v, not %v", i, got, x.want)
		}
		if got := reach.Begins(x.p, back(l), 4); len(got) != len(x.want) || len(got) > 0 && got[0] != 4-x.want[len(got)-1] {
			t.Errorf("%d: %v, not %v", i, got, x.want)
		}
	}
	// Each of these is one behind the other, or one of several, around another such.
	p := a
	for i := range 200 {
		p = []api.Pat{row(star(p), maybe(signs(2))), or(p, row(p.Kids...)), plus(row(maybe(a), p))}[i%3]
		if i < 6 {
			check(t, p, []int{1, 2, 1})
		}
	}
	if got := reach.Ends(p, []int{1, 2, 2, 1, 3, 1}, 0); !slices.Equal(got, upTo(4)) {
		t.Error(got)
	}
	if got := reach.Begins(p, []int{1, 3, 1, 2, 2, 1}, 6); !slices.Equal(got, []int{2, 3, 4, 5, 6}) {
		t.Error(got)
	}
}

// P11.1: Kids that stand at one place come to an end, however often they are met.
func TestKnots(t *testing.T) {
	a, b := signs(1), signs(2)
	l := []int{1, 1, 2, 1, 1}
	for i, x := range []struct {
		p            api.Pat
		ends, begins []int
	}{
		{knot(a, 200, 3), nil, nil},
		{knot(maybe(a), 199, 3), []int{0, 1, 2}, []int{3, 4, 5}},
		{knot(a, 200, 4), []int{1}, []int{4}},
		{knot(maybe(a), 199, 4), []int{0, 1}, []int{4, 5}},
		{knot(star(or(a, row(b, a))), 190, 3, 4), []int{0, 1, 2, 4, 5}, upTo(5)},
		{knot(plus(row(a, maybe(b))), 2, 3), []int{5}, []int{0}},
		{row(knot(maybe(a), 190, 3, 4), b), []int{3}, nil},
		{row(b, knot(maybe(a), 190, 3, 4)), nil, []int{2}},
		{row(knot(empty, 199, 3), a, knot(maybe(a), 190, 3), b, plus(knot(maybe(a), 190, 3))), []int{3, 4, 5}, []int{0, 1}},
		{star(knot(or(a, row(b, a)), 199, 4)), []int{0, 1, 2, 4, 5}, upTo(5)},
		{plus(knot(or(), 199, 4, 3)), nil, nil},
		{maybe(knot(plus(maybe(a)), 190, 3)), []int{0, 1, 2}, []int{3, 4, 5}},
		{row(knot(empty, 190, 3, 4), or(star(a, a), pat(9, a), pat(api.PatSet, a), a)), []int{1}, []int{4}},
		{row(knot(empty, 190, 3, 4), api.Pat{Kind: api.PatSet, Signs: []int{1}, Kids: l5(a)}, api.Pat{Kind: api.PatSet, Signs: []int{1, 2}, Kids: l5(a)}), []int{2}, []int{3}},
		{row(knot(empty, 190, 3, 4), plus(), a), nil, nil},
		{row(knot(empty, 190, 3, 4), row(), plus(a), row(), star(b), row()), []int{1, 2, 3}, []int{3, 4}},
	} {
		if got := reach.Ends(x.p, l, 0); !slices.Equal(got, x.ends) {
			t.Errorf("%d: Ends %v, not %v", i, got, x.ends)
		}
		if got := reach.Begins(x.p, l, 5); !slices.Equal(got, x.begins) {
			t.Errorf("%d: Begins %v, not %v", i, got, x.begins)
		}
		if got := reach.Matches(x.p, l, 0, 5); got != slices.Contains(x.ends, 5) {
			t.Errorf("%d: %v", i, got)
		}
		if got := reach.Null(x.p); got != slices.Contains(x.ends, 0) {
			t.Errorf("%d: %v", i, got)
		}
		if got := reach.Ends(reach.Turn(x.p), back(l), 0); len(got) != len(x.begins) || len(got) > 0 && got[0] != 5-x.begins[len(got)-1] {
			t.Errorf("%d: %v turned round, not %v", i, got, x.begins)
		}
	}
}

// l5 are Kids of one list that several forms may have.
func l5(p api.Pat) []api.Pat { return slices.Repeat([]api.Pat{p}, 5) }

// P11.1: the same Kids beneath several kinds, so often that they aren't gone into one by one.
func TestSharedKids(t *testing.T) {
	a := []api.Pat{or(row(signs(1), signs(2)), row(signs(1)), signs(3))}
	l := []int{1, 2, 3, 1, 1, 2}
	ahead := knot(empty, 60, 3, 4)
	for i := range 27 {
		p := row(pat(5+i%3, a...), pat(5+i/3%3, a...), pat(5+i/9, a...))
		for at := range len(l) + 1 {
			if got, want := reach.Ends(row(ahead, p), l, at), reach.Ends(p, l, at); !slices.Equal(got, want) {
				t.Error(i, at, got, want)
			}
			if got, want := reach.Begins(row(ahead, p), l, at), reach.Begins(p, l, at); !slices.Equal(got, want) {
				t.Error(i, at, got, want)
			}
		}
		check(t, p, l)
	}
}

// P11.1: Kids that begin where others do, and are fewer.
func TestFewerKids(t *testing.T) {
	kids := []api.Pat{signs(1), signs(2), maybe(signs(3))}
	ahead := knot(empty, 60, 3)
	p := or(row(kids[:1]...), row(kids[1:]...), row(kids...), row(kids[:2]...), or(kids[:2]...))
	l := []int{1, 2, 3, 1}
	for at := range 5 {
		if got, want := reach.Ends(row(ahead, p), l, at), reach.Ends(p, l, at); !slices.Equal(got, want) {
			t.Error(at, got, want)
		}
	}
	if got, want := reach.Ends(row(ahead, p), l, 0), []int{1, 2, 3}; !slices.Equal(got, want) {
		t.Error(got)
	}
	q := reach.Turn(row(knot(empty, 20, 3), row(kids[:1]...), row(kids...), row(kids[:2]...)))
	if got, want := show(row(q.Kids[:3]...)), show(row(row(back(kids[:2])...), row(back(kids)...), row(kids[0]))); got != want {
		t.Error(got)
	}
}

// P11.1: forms of very many nodes, and long lists.
func TestLarge(t *testing.T) {
	var each []api.Pat
	for i := range 150000 {
		each = append(each, signs(i))
	}
	l := []int{3, 149999, 77, 150000, 5}
	if got := reach.Ends(star(or(each...)), l, 0); !slices.Equal(got, upTo(3)) {
		t.Error(got)
	}
	if got := reach.Begins(plus(or(each...)), l, 3); !slices.Equal(got, upTo(2)) {
		t.Error(got)
	}
	if got := reach.Ends(row(each...), upTo(149999), 0); !slices.Equal(got, []int{150000}) {
		t.Error(got)
	}
	if got := reach.Begins(row(each...), upTo(149999), 150000); !slices.Equal(got, []int{0}) {
		t.Error(got)
	}
	long := times(100000, 1)
	a := signs(1)
	for i, p := range []api.Pat{star(a), star(star(plus(maybe(a)))), star(row(star(a), star(a))), deep(a, 20, 5), star(or(a, row(a, a), row(a, a, a)))} {
		if got := reach.Ends(p, long, 0); !slices.Equal(got, upTo(100000)) {
			t.Error(i, len(got))
		}
		if got := reach.Begins(p, long, 100000); !slices.Equal(got, upTo(100000)) {
			t.Error(i, len(got))
		}
		if !reach.Matches(p, long, 5, 99999) {
			t.Error(i)
		}
	}
}

// P11.1: against the document's words, for many made forms and lists.
func TestMade(t *testing.T) {
	m := &maker{11}
	matched, missed := 0, 0
	for range 6000 {
		p, l := m.form(1+m.next(4)), m.list(6)
		check(t, p, l)
		checkTurn(t, p)
		if len(reach.Ends(p, l, 0)) > 1 {
			matched++
		} else {
			missed++
		}
	}
	if matched < 300 || missed < 300 {
		t.Error(matched, missed)
	}
}

// P11.1: what is gone through node by node is as what is gone through at once.
func TestMadeWithKnots(t *testing.T) {
	m := &maker{12}
	ahead := knot(empty, 40, 3)
	for range 60 {
		p, l := m.form(1+m.next(4)), m.list(6)
		for at := range len(l) + 1 {
			if got, want := reach.Ends(row(ahead, p), l, at), reach.Ends(p, l, at); !slices.Equal(got, want) {
				t.Errorf("%.900s over %v from %d: %v, not %v", show(p), l, at, got, want)
			}
			if got, want := reach.Begins(row(p, ahead), l, at), reach.Begins(p, l, at); !slices.Equal(got, want) {
				t.Errorf("%.900s over %v to %d: %v, not %v", show(p), l, at, got, want)
			}
		}
	}
}

// P11.2: turned round a form matches the list turned round, and a place is an end of another one just if this is a beginning of it.
func TestOtherWayRound(t *testing.T) {
	m := &maker{13}
	found := 0
	for range 4000 {
		p, l := m.form(1+m.next(5)), m.list(9)
		q, r, n := reach.Turn(p), back(l), len(l)
		if show(reach.Turn(q)) != show(p) {
			t.Errorf("%.900s: turned round twice %.900s", show(p), show(reach.Turn(q)))
		}
		if reach.Null(p) != reach.Null(q) {
			t.Errorf("%.900s: Null", show(p))
		}
		for from := range n + 1 {
			ends := reach.Ends(p, l, from)
			for to := range n + 1 {
				end := slices.Contains(ends, to)
				if end != slices.Contains(reach.Begins(p, l, to), from) || end != reach.Matches(p, l, from, to) || end != reach.Matches(q, r, n-to, n-from) {
					t.Errorf("%.900s over %v: %d to %d", show(p), l, from, to)
				}
				if end && to > from {
					found++
				}
			}
			for i, b := range back(reach.Begins(q, r, n-from)) {
				if i >= len(ends) || ends[i] != n-b {
					t.Errorf("%.900s over %v: from %d", show(p), l, from)
				}
			}
		}
	}
	if found < 2000 {
		t.Error(found)
	}
}

// P11.1: what is handed in stays as it was, its spare room too, and answers stay as they are.
func TestStays(t *testing.T) {
	m := &maker{14}
	for range 300 {
		p := m.form(4)
		l := slices.Grow(m.list(6), 4)
		room := l[:cap(l)]
		for i := len(l); i < len(room); i++ {
			room[i] = 1
		}
		was, list := show(p), slices.Clone(room)
		q, ends, begins := reach.Turn(p), reach.Ends(p, l, 0), reach.Begins(p, l, len(l))
		reach.Matches(p, l, 0, len(l))
		reach.Null(p)
		if show(p) != was || !slices.Equal(room, list) {
			t.Fatal(was, show(p), list, room)
		}
		turned := show(q)
		spoil(&p)
		if show(q) != turned {
			t.Fatal("shares", was)
		}
		_, _ = append(ends, -7), append(begins, -7)
		for i := range room {
			room[i] = -9
		}
		if slices.Contains(ends, -9) || slices.Contains(begins, -9) {
			t.Fatal("shares", was)
		}
	}
}

// P11.1: forms that have the same Kids are turned round each for itself, unless they are too many.
func TestTurnOwn(t *testing.T) {
	q := reach.Turn(knot(signs(1, 2), 6, 3, 4))
	spoil(&q.Kids[0])
	if got, want := show(q.Kids[1]), show(knot(signs(1, 2), 5, 3, 4)); got != want {
		t.Error(got)
	}
	// Beyond that, what stands in them is still so.
	p := reach.Turn(knot(row(signs(1), signs(2), signs(3)), 150, 3, 5, 4))
	for range 150 {
		p = p.Kids[1]
	}
	if got := show(p); got != show(row(signs(3), signs(2), signs(1))) {
		t.Error(got)
	}
}

// spoil changes all lists of a form.
func spoil(p *api.Pat) {
	for i := range p.Set {
		p.Set[i] = api.Range{Low: -5, High: -5}
	}
	for i := range p.Signs {
		p.Signs[i] = -5
	}
	for i := range p.Kids {
		spoil(&p.Kids[i])
		p.Kids[i].Kind = -5
	}
}
