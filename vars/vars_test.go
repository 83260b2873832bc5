package vars_test

import (
	"fmt"
	"math"
	"slices"
	"strings"
	"testing"

	"caesura/api"
	"caesura/expr"
	"caesura/vars"
	"caesura/word"
)

// node, name, reach, set: nodes, written down.
func node(kind int, kids ...api.Node) api.Node { return api.Node{Kind: kind, Kids: kids} }

func name(s string) api.Node { return api.Node{Kind: 2, Name: s} }

func reach(low, high int) api.Node { return api.Node{Kind: 5, Low: low, High: high} }

func set(low int, kids ...api.Node) api.Node { return api.Node{Kind: 4, Low: low, Kids: kids} }

func one(c int) api.Node { return reach(c, c) }

// pat, patSet, ranges: written out.
func pat(kind int, kids ...api.Pat) api.Pat { return api.Pat{Kind: kind, Kids: kids} }

func patSet(ends ...int) api.Pat { return api.Pat{Kind: 2, Set: ranges(ends...)} }

func ranges(ends ...int) []api.Range {
	var l []api.Range
	for i := 0; i < len(ends); i += 2 {
		l = append(l, api.Range{Low: ends[i], High: ends[i+1]})
	}
	return l
}

const top = 0x10ffff

var none, anyOne, all = node(1), node(3), patSet(0, top)

// show: a form, written out, with all that is in it, as a text.
func show(p api.Pat) string {
	var kids []string
	for _, k := range p.Kids {
		kids = append(kids, show(k))
	}
	return fmt.Sprintf("%d %v %v (%s)", p.Kind, p.Set, p.Signs, strings.Join(kids, ", "))
}

// alike: are all things that are in two forms the same?
func alike(a, b api.Pat) bool {
	return a.Kind == b.Kind && slices.Equal(a.Set, b.Set) && slices.Equal(a.Signs, b.Signs) && slices.EqualFunc(a.Kids, b.Kids, alike)
}

func alikeVars(a, b api.Var) bool {
	return a.Name == b.Name && alike(a.Pat, b.Pat) && a.Set == b.Set && a.Pos == b.Pos
}

// showVars: names with all that is in them, a line each.
func showVars(l []api.Var) string {
	var s strings.Builder
	for _, v := range l {
		fmt.Fprintf(&s, "%q {%s} %v at %d\n", v.Name, show(v.Pat), v.Set, v.Pos)
	}
	return s.String()
}

// showNode: a form with all that is in it, as a text.
func showNode(n api.Node) string {
	var kids []string
	for _, k := range n.Kids {
		kids = append(kids, showNode(k))
	}
	return fmt.Sprintf("%d %q %d %d (%s)", n.Kind, n.Name, n.Low, n.High, strings.Join(kids, ", "))
}

// brief: the beginning of a form, as a text.
func brief(n api.Node) string { return fmt.Sprintf("%.400s", showNode(n)) }

// cells are characters for which the tests' own words of the document are worked out: each of the first ones, all between, the last but one, the last.
type cells [few + 3]bool

const few = 1000

// firstOf: a cell's first character.
func firstOf(cell int) int {
	switch cell {
	case few + 1:
		return top - 1
	case few + 2:
		return top
	}
	return cell
}

// cellAt: the number of the one that a character is in.
func cellAt(c int) int {
	return min(c, few) + max(0, c-(top-2))
}

// cellsOf: those of some ranges, each of which has cells as a whole.
func cellsOf(l []api.Range) cells {
	var c cells
	for _, r := range l {
		if r.Low > r.High || r.High < 0 || r.Low > top {
			continue
		}
		for i := cellAt(max(r.Low, 0)); i <= cellAt(min(r.High, top)); i++ {
			c[i] = true
		}
	}
	return c
}

// many: how many ranges it has.
func (c cells) many() int {
	n := 0
	for i, has := range c {
		if has && (i == 0 || !c[i-1]) {
			n++
		}
	}
	return n
}

// least: the ranges of cells, as they are least.
func (c cells) least() []api.Range {
	var l []api.Range
	for i, has := range c {
		if !has {
			continue
		}
		last := top
		if i < len(c)-1 {
			last = firstOf(i+1) - 1
		}
		if i > 0 && c[i-1] {
			l[len(l)-1].High = last
		} else {
			l = append(l, api.Range{Low: firstOf(i), High: last})
		}
	}
	return l
}

func firstNamed(l []api.Var, s string) (api.Var, bool) {
	for _, v := range l {
		if v.Name == s {
			return v, true
		}
	}
	return api.Var{}, false
}

// kidsSets: those of a node's Kids; the first error.
func kidsSets(n api.Node, l []api.Var) ([][]api.Range, api.Errno) {
	var sets [][]api.Range
	for _, k := range n.Kids {
		s, e := setOf(k, l)
		if e != api.OK {
			return nil, e
		}
		sets = append(sets, s)
	}
	return sets, api.OK
}

// setOf: the words of the document for a node's set.
func setOf(n api.Node, l []api.Var) ([]api.Range, api.Errno) {
	var c cells
	switch {
	case n.Kind == 2:
		v, known := firstNamed(l, n.Name)
		if !known {
			return nil, api.ErrName
		}
		if !v.Set {
			return nil, api.ErrKind
		}
		if len(v.Pat.Set) > 400 {
			return nil, api.ErrMany
		}
		return v.Pat.Set, api.OK
	case n.Kind == 3:
		c = cellsOf(ranges(0, top))
	case n.Kind == 5:
		c = cellsOf(ranges(n.Low, n.High))
	case n.Kind == 4:
		sets, e := kidsSets(n, l)
		if e != api.OK {
			return nil, e
		}
		for _, k := range sets {
			for i, has := range cellsOf(k) {
				c[i] = c[i] || has
			}
			if c.many() > 400 {
				return nil, api.ErrMany
			}
		}
		for i := range c {
			c[i] = c[i] != (n.Low == 1)
		}
	case (n.Kind == 6 || n.Kind == 7) && len(n.Kids) == 2:
		sets, e := kidsSets(n, l)
		if e != api.OK {
			return nil, e
		}
		c = cellsOf(sets[0])
		for i, has := range cellsOf(sets[1]) {
			c[i] = c[i] && has == (n.Kind == 6)
		}
	default:
		return nil, api.ErrKind
	}
	if c.many() > 400 {
		return nil, api.ErrMany
	}
	return c.least(), api.OK
}

// patOf: the words of the document for a form with its names written out, but for how many nodes it has.
func patOf(n api.Node, l []api.Var) (api.Pat, api.Errno) {
	switch n.Kind {
	case 1:
		return pat(1), api.OK
	case 2:
		v, known := firstNamed(l, n.Name)
		if !known {
			return api.Pat{}, api.ErrName
		}
		return v.Pat, api.OK
	case 3, 4:
		s, e := setOf(n, l)
		if e != api.OK {
			return api.Pat{}, e
		}
		return api.Pat{Kind: 2, Set: s}, api.OK
	case 8, 9, 10, 11, 12:
		p := pat(n.Kind - 5)
		for _, k := range n.Kids {
			q, e := patOf(k, l)
			if e != api.OK {
				return api.Pat{}, e
			}
			p.Kids = append(p.Kids, q)
		}
		return p, api.OK
	}
	return api.Pat{}, api.ErrKind
}

func nodesIn(p api.Pat) int {
	size := 1
	for _, k := range p.Kids {
		size += nodesIn(k)
	}
	return size
}

// expandOf: patOf, and at last how many nodes it has.
func expandOf(n api.Node, l []api.Var) (api.Pat, api.Errno) {
	p, e := patOf(n, l)
	if e == api.OK && nodesIn(p) > 300 {
		return api.Pat{}, api.ErrMany
	}
	return p, e
}

// check: Set, Expand and Give of a form against the words of the document; the errors of the first two.
func check(t *testing.T, n api.Node, l []api.Var) (ofSet, ofForm api.Errno) {
	t.Helper()
	wantSet, wantE := setOf(n, l)
	if s, e := vars.Set(n, l); e != wantE || !slices.Equal(s, wantSet) {
		t.Fatalf("set of %s: %v %d, not %v %d", brief(n), s, e, wantSet, wantE)
	}
	want, wantF := expandOf(n, l)
	p, f := vars.Expand(n, l)
	if f != wantF || !alike(p, want) || !vars.Same(p, want) || vars.Size(p) != nodesIn(want) {
		t.Fatalf("%s: %s %d, not %s %d", brief(n), show(p), f, show(want), wantF)
	}
	x := api.Item{Kind: 1, Name: "new", Before: n, Pos: 77}
	m, g := vars.Give(l, x)
	if wantF != api.OK {
		if len(m) != 0 || g != wantF {
			t.Fatalf("given %s: %s %d, not %d", brief(n), showVars(m), g, wantF)
		}
		return wantE, wantF
	}
	known := n.Kind == 3 || n.Kind == 4
	if v, is := firstNamed(l, n.Name); is && n.Kind == 2 {
		known = v.Set
	}
	if g != api.OK || !slices.EqualFunc(m, append(slices.Clone(l), api.Var{Name: "new", Pat: want, Set: known, Pos: 77}), alikeVars) {
		t.Fatalf("given %s: %s %d", brief(n), showVars(m), g)
	}
	return wantE, wantF
}

// expectSet: a node that has this set, alone, in a set and in a form; and the tests' own words of the document alike.
func expectSet(t *testing.T, n api.Node, l []api.Var, ends ...int) {
	t.Helper()
	want := ranges(ends...)
	for _, m := range []api.Node{n, set(0, n), set(1, set(1, n)), set(0, n, n), node(6, n, anyOne), node(7, n, set(0))} {
		if s, e := vars.Set(m, l); e != api.OK || !slices.Equal(s, want) {
			t.Errorf("%s: %v %d, not %v", brief(m), s, e, want)
		}
		check(t, m, l)
	}
	if p, e := vars.Expand(node(10, set(0, n)), l); e != api.OK || show(p) != show(pat(5, api.Pat{Kind: 2, Set: want})) {
		t.Errorf("%s: %s %d", brief(n), show(p), e)
	}
}

// refuseSet: a node of which Set's error is this one, alone, ahead of others and within them, in sets and in forms.
func refuseSet(t *testing.T, n api.Node, l []api.Var, want api.Errno) {
	t.Helper()
	for _, m := range []api.Node{n, set(1, one('x'), n), set(0, n, name("nobody")), set(0, set(1, n)), node(6, n, name("nobody")), node(7, anyOne, n)} {
		if e, _ := check(t, m, l); e != want {
			t.Errorf("set of %s: %d, not %d", brief(m), e, want)
		}
	}
	for _, m := range []api.Node{set(0, n), node(8, anyOne, set(1, n), name("nobody"))} {
		if _, e := check(t, m, l); e != want {
			t.Errorf("%s: %d, not %d", brief(m), e, want)
		}
	}
}

// expect: a form that is written out so, alone and within others.
func expect(t *testing.T, n api.Node, l []api.Var, want api.Pat) {
	t.Helper()
	for kind := 8; kind <= 12; kind++ {
		m := node(kind, n, none, n)
		if p, e := vars.Expand(m, l); e != api.OK || show(p) != show(pat(kind-5, want, pat(1), want)) {
			t.Errorf("%s: %s %d", brief(m), show(p), e)
		}
		check(t, m, l)
	}
	if p, e := vars.Expand(n, l); e != api.OK || show(p) != show(want) {
		t.Errorf("%s: %s %d, not %s", brief(n), show(p), e, show(want))
	}
	check(t, n, l)
}

// refuse: a form of which Expand's error is this one, alone and within others.
func refuse(t *testing.T, n api.Node, l []api.Var, want api.Errno) {
	t.Helper()
	for kind := 8; kind <= 12; kind++ {
		for _, m := range []api.Node{n, node(kind, n), node(9, anyOne, node(kind, none, n, none))} {
			if _, e := check(t, m, l); e != want {
				t.Errorf("%s: %d, not %d", brief(m), e, want)
			}
		}
	}
}

// refuseFirst: likewise, and ahead of all else that is wrong behind it.
func refuseFirst(t *testing.T, n api.Node, l []api.Var, want api.Errno) {
	t.Helper()
	refuse(t, n, l, want)
	for _, behind := range []api.Node{name("nobody"), node(13), set(0, odd(401)...)} {
		if _, e := check(t, node(8, none, node(12, n), behind), l); e != want {
			t.Errorf("%s: %d, not %d", brief(n), e, want)
		}
	}
}

// parsed: the form that a text is, as layer 6 reads it.
func parsed(t *testing.T, s string) api.Node {
	t.Helper()
	l, at, e := word.Of([]byte(s))
	n, wrong, f := expr.Form(l, len(s))
	if e != api.OK || f != api.OK {
		t.Fatalf("%q: %d %d, %d %d", s, at, e, wrong, f)
	}
	return n
}

// given: the names of a text, one given after the other.
func given(t *testing.T, s string) []api.Var {
	t.Helper()
	items, at, e := expr.Of([]byte(s))
	if e != api.OK {
		t.Fatalf("%q: %d %d", s, at, e)
	}
	var l []api.Var
	for _, x := range items {
		check(t, x.Before, l)
		m, e := vars.Give(l, x)
		if e != api.OK {
			t.Fatalf("%q: %s %d", s, x.Name, e)
		}
		l = m
	}
	return l
}

var noKinds = []int{0, -1, 13, 14, 100, math.MinInt, math.MaxInt}

// P8.1: each kind of node alone, and a Kind that isn't one.
func TestEachKind(t *testing.T) {
	l := []api.Var{{Name: "s", Pat: patSet('b', 'd'), Set: true}, {Name: "f", Pat: pat(5, all)}}
	a, b := one('a'), one('b')
	expectSet(t, anyOne, l, 0, top)
	expectSet(t, set(0), l)
	expectSet(t, set(1), l, 0, top)
	expectSet(t, set(0, a, reach('x', 'z')), l, 'a', 'a', 'x', 'z')
	expectSet(t, set(1, a, reach('x', 'z')), l, 0, 'a'-1, 'a'+1, 'x'-1, 'z'+1, top)
	expectSet(t, reach('a', 'c'), l, 'a', 'c')
	expectSet(t, node(6, a, a), l, 'a', 'a')
	expectSet(t, node(6, a, b), l)
	expectSet(t, node(7, a, b), l, 'a', 'a')
	expectSet(t, node(7, a, a), l)
	expectSet(t, name("s"), l, 'b', 'd')
	refuseSet(t, name("q"), l, api.ErrName)
	refuseSet(t, name("f"), l, api.ErrKind)
	for _, kind := range append([]int{1, 8, 9, 10, 11, 12}, noKinds...) {
		refuseSet(t, node(kind), l, api.ErrKind)
		refuseSet(t, node(kind, a), l, api.ErrKind)
		refuseSet(t, node(kind, name("q"), a), l, api.ErrKind)
	}

	expect(t, none, l, pat(1))
	expect(t, anyOne, l, all)
	expect(t, set(0), l, patSet())
	expect(t, set(1), l, all)
	expect(t, set(0, a, reach('x', 'z')), l, patSet('a', 'a', 'x', 'z'))
	expect(t, name("s"), l, patSet('b', 'd'))
	expect(t, name("f"), l, pat(5, all))
	refuseFirst(t, name("q"), l, api.ErrName)
	for kind, want := range map[int]int{8: 3, 9: 4, 10: 5, 11: 6, 12: 7} {
		expect(t, node(kind), l, pat(want))
		expect(t, node(kind, none), l, pat(want, pat(1)))
		expect(t, node(kind, anyOne, name("f"), none), l, pat(want, all, pat(5, all), pat(1)))
	}
	for _, kind := range append([]int{5, 6, 7}, noKinds...) {
		refuseFirst(t, node(kind), l, api.ErrKind)
		refuseFirst(t, node(kind, set(0, a)), l, api.ErrKind)
		refuseFirst(t, node(kind, set(0, a), set(0, b)), l, api.ErrKind)
		refuseFirst(t, node(kind, name("q"), name("q")), l, api.ErrKind)
	}
	refuseFirst(t, reach('a', 'c'), l, api.ErrKind)
}

// P8.1: what the words don't ask of a node says nothing.
func TestFieldsThatSayNothing(t *testing.T) {
	l := []api.Var{{Name: "s", Pat: patSet('b', 'd'), Set: true}}
	kids := []api.Node{name("q"), node(13)}
	expect(t, api.Node{Kind: 1, Name: "q", Low: 1, High: 2, Kids: kids}, l, pat(1))
	expect(t, api.Node{Kind: 3, Name: "q", Low: 1, High: 2, Kids: kids}, l, all)
	expect(t, api.Node{Kind: 2, Name: "s", Low: 1, High: 2, Kids: kids}, l, patSet('b', 'd'))
	expect(t, api.Node{Kind: 4, Name: "q", High: 2, Kids: []api.Node{one('a')}}, l, patSet('a', 'a'))
	expect(t, api.Node{Kind: 12, Name: "q", Low: 1, High: 2, Kids: []api.Node{anyOne}}, l, pat(7, all))
	expectSet(t, api.Node{Kind: 5, Name: "q", Low: 1, High: 2, Kids: kids}, l, 1, 2)
	expectSet(t, api.Node{Kind: 6, Name: "q", Low: 1, High: 2, Kids: []api.Node{one('a'), anyOne}}, l, 'a', 'a')
	for _, low := range []int{2, -1, math.MinInt, math.MaxInt} {
		expectSet(t, set(low, one('a')), l, 'a', 'a')
		expectSet(t, set(low), l)
	}
}

// P8.1: ranges, turned round and with ends that are no characters.
func TestRanges(t *testing.T) {
	for _, r := range []struct {
		low, high int
		want      []int
	}{
		{0, 0, []int{0, 0}}, {top, top, []int{top, top}}, {0, top, []int{0, top}},
		{'b', 'a', nil}, {1, 0, nil}, {top, 0, nil}, {math.MaxInt, math.MinInt, nil},
		{-1, -1, nil}, {-5, 0, []int{0, 0}}, {-5, 7, []int{0, 7}}, {top + 1, top + 1, nil}, {top, top + 1, []int{top, top}},
		{math.MinInt, math.MaxInt, []int{0, top}}, {math.MinInt, -1, nil}, {top + 1, math.MaxInt, nil}, {9, math.MaxInt, []int{9, top}},
	} {
		expectSet(t, reach(r.low, r.high), nil, r.want...)
	}
	expectSet(t, set(0, reach(1, 3), reach(4, 5)), nil, 1, 5)
	expectSet(t, set(0, reach(8, 9), reach(1, 3), reach(2, 5)), nil, 1, 5, 8, 9)
	expectSet(t, set(0, reach(5, 4), one(7)), nil, 7, 7)
	expectSet(t, set(1, reach(5, 4)), nil, 0, top)
}

// P8.1: sets within sets, turned round or not, with & and -.
func TestSetsWithinSets(t *testing.T) {
	l := given(t, "$v=[aeiou]\n$l=[a-z]\n$none=[]\n$any=.\n$x=$v\n$y=[^$any]")
	for s, want := range map[string][]int{
		"[]":                   nil,
		"[^]":                  {0, top},
		"[[]]":                 nil,
		"[^[]]":                {0, top},
		"[^[^]]":               nil,
		"[[^]]":                {0, top},
		"[^[^[^]]]":            {0, top},
		"[^[^b-d]]":            {'b', 'd'},
		"[[b-d] [^a]]":         {0, 'a' - 1, 'a' + 1, top},
		"[[^a]&[^b]]":          {0, 'a' - 1, 'c', top},
		"[[^a]-[^b]]":          {'b', 'b'},
		"[a-f&[c-h]]":          {'c', 'f'},
		"[[a-f]-[c-d]]":        {'a', 'b', 'e', 'f'},
		"[[a-f]-[c-d]&[d-e]]":  {'e', 'e'},
		"[[a-f]-[c-d]-[a e]]":  {'b', 'b', 'f', 'f'},
		"[$l-$v]":              {'b', 'd', 'f', 'h', 'j', 'n', 'p', 't', 'v', 'z'},
		"[^$l-$v]":             {0, 'a', 'e', 'e', 'i', 'i', 'o', 'o', 'u', 'u', 'z' + 1, top},
		"[$v $none b]":         {'a', 'b', 'e', 'e', 'i', 'i', 'o', 'o', 'u', 'u'},
		"[$v&$none]":           nil,
		"[$any-$l]":            {0, 'a' - 1, 'z' + 1, top},
		"[$any&$x]":            {'a', 'a', 'e', 'e', 'i', 'i', 'o', 'o', 'u', 'u'},
		"[$y]":                 nil,
		"[^$y]":                {0, top},
		"[[$x [b]]&[a-e]-[d]]": {'a', 'b', 'e', 'e'},
	} {
		n := parsed(t, s)
		expectSet(t, n, l, want...)
		expect(t, n, l, patSet(want...))
	}
	example := given(t, "$a = [a-c]\n$b = [$a-[b]]")
	if show(example[1].Pat) != show(patSet('a', 'a', 'c', 'c')) || !example[1].Set {
		t.Error(showVars(example))
	}
	// The first character of the one, all but the one, of Kids that no text could write.
	expectSet(t, node(7, node(6, reach(3, 9), anyOne), node(7, reach(4, 8), one(6))), nil, 3, 3, 6, 6, 9, 9)
}

// P8.1: & and - of other than two have no set, whatever is in them.
func TestOtherThanTwo(t *testing.T) {
	a := one('a')
	big := set(0, odd(401)...)
	for _, kind := range []int{6, 7} {
		for _, kids := range [][]api.Node{{}, {a}, {anyOne}, {a, a, a}, {a, a, a, a}, {name("q")}, {name("q"), name("q"), name("q")}, {big}, {a, a, big}} {
			refuseSet(t, node(kind, kids...), nil, api.ErrKind)
		}
	}
}

// P8.1: names.
func TestNames(t *testing.T) {
	l := given(t, "$v=[aeiou]\n$w=$v+\n$x=$v\n$y=.\n$z=$x\n$e=()\n$ww=$w\n$o=[a]|[b]\n$j=([a])\n$r=($v)")
	want := []bool{true, false, true, true, true, false, false, false, true, true}
	for i, v := range l {
		if v.Set != want[i] {
			t.Error(v.Name, v.Set)
		}
	}
	vowels := []int{'a', 'a', 'e', 'e', 'i', 'i', 'o', 'o', 'u', 'u'}
	for _, s := range []string{"v", "x", "z", "r"} {
		expectSet(t, name(s), l, vowels...)
		expect(t, name(s), l, patSet(vowels...))
	}
	expectSet(t, name("y"), l, 0, top)
	for _, s := range []string{"w", "e", "ww", "o"} {
		refuseSet(t, name(s), l, api.ErrKind)
	}
	expect(t, name("w"), l, pat(6, patSet(vowels...)))
	expect(t, name("ww"), l, pat(6, patSet(vowels...)))
	expect(t, name("e"), l, pat(1))
	expect(t, name("o"), l, pat(4, patSet('a', 'a'), patSet('b', 'b')))
	expect(t, node(8, name("w"), node(12, name("o"))), l, pat(3, pat(6, patSet(vowels...)), pat(7, pat(4, patSet('a', 'a'), patSet('b', 'b')))))
	for _, s := range []string{"", "V", "vv", "v ", "$v", "q", "\xff"} {
		refuseSet(t, name(s), l, api.ErrName)
		refuseFirst(t, name(s), l, api.ErrName)
		refuseFirst(t, name(s), nil, api.ErrName)
	}
	example := given(t, "$a=[a]\n$b=$a [b]|()\n$c=($b $b)*")
	b := pat(4, pat(3, patSet('a', 'a'), patSet('b', 'b')), pat(1))
	expect(t, name("c"), example, pat(5, pat(3, b, b)))
	if example[0].Pos != 0 || example[1].Pos != 7 || example[2].Pos != 20 || vars.Size(example[2].Pat) != 12 {
		t.Error(showVars(example))
	}
}

// P8.1: names that no text gave: the first one of several of one name; whether it is a set, its field Set tells; its form as it is.
func TestNamesAsTheyAre(t *testing.T) {
	strange := api.Pat{Kind: 2, Set: ranges(8, 9, 1, 3, 4, 5, 7, 6, -2, 0), Signs: []int{4, 4, -1}, Kids: []api.Pat{all}}
	l := []api.Var{
		{Name: "a", Pat: patSet(1, 1), Set: true}, {Name: "a", Pat: patSet(2, 2)}, {Name: "b", Pat: pat(1)}, {Name: "a", Pat: patSet(3, 3), Set: true}, {Name: "b", Pat: patSet(4, 4), Set: true},
		{Name: "strange", Pat: strange, Set: true}, {Name: "formSet", Pat: pat(3, all), Set: true}, {Name: "setForm", Pat: patSet(5, 5)}, {Name: "nothing"}, {Name: "empty", Set: true},
	}
	expectSet(t, name("a"), l, 1, 1)
	expect(t, name("a"), l, patSet(1, 1))
	refuseSet(t, name("b"), l, api.ErrKind)
	expect(t, name("b"), l, pat(1))
	refuseSet(t, name("setForm"), l, api.ErrKind)
	expect(t, name("setForm"), l, patSet(5, 5))
	expectSet(t, name("formSet"), l)
	expect(t, name("formSet"), l, pat(3, all))
	refuseSet(t, name("nothing"), l, api.ErrKind)
	expect(t, name("nothing"), l, api.Pat{})
	expectSet(t, name("empty"), l)
	expect(t, name("strange"), l, strange)
	check(t, name("strange"), l)
	for _, n := range []api.Node{set(0, name("strange")), set(1, set(1, name("strange"))), node(6, name("strange"), anyOne), node(7, name("strange"), set(0))} {
		expectSet(t, n, l, 0, 5, 8, 9)
	}
	for i, want := range []int{0, 2, 5, 6, 7, 8, 9} {
		if got := vars.Find(l, []string{"a", "b", "strange", "formSet", "setForm", "nothing", "empty"}[i]); got != want {
			t.Error(got, want)
		}
	}
	if vars.Find(l, "A") != -1 || vars.Find(l, "") != -1 || vars.Find(nil, "a") != -1 || vars.Find(nil, "") != -1 || vars.Find([]api.Var{{}}, "") != 0 {
		t.Error("found")
	}
}

// odd: ranges of a character each, so many, none next to another one.
func odd(many int) []api.Node {
	var l []api.Node
	for i := range many {
		l = append(l, one(2*i+1))
	}
	return l
}

// oddRanges: likewise, as a set.
func oddRanges(many int) []api.Range {
	var l []api.Range
	for i := range many {
		l = append(l, api.Range{Low: 2*i + 1, High: 2*i + 1})
	}
	return l
}

// P8.1: sets of 400 ranges and of 401, at the end and on the way.
func TestManyRanges(t *testing.T) {
	l := []api.Var{{Name: "most", Pat: api.Pat{Kind: 2, Set: oddRanges(400)}, Set: true}, {Name: "more", Pat: api.Pat{Kind: 2, Set: oddRanges(401)}, Set: true}, {Name: "low", Pat: api.Pat{Kind: 2, Set: oddRanges(200)}, Set: true}, {Name: "f", Pat: all}}
	for i, n := range []api.Node{
		set(0, odd(400)...),
		set(1, append([]api.Node{one(0)}, odd(400)...)...),
		set(1, odd(399)...),
		name("most"),
		set(0, name("most")),
		set(0, name("most"), name("most")),
		set(0, name("low"), set(0, odd(400)[200:]...)),
		set(0, append(odd(400), reach(1, 900))...),
		set(0, append([]api.Node{reach(0, 900)}, odd(401)...)...),
		set(0, append(odd(400), reach(801, 800))...),
		node(6, anyOne, name("most")),
		node(7, anyOne, set(1, name("most"), one(0))),
		node(7, name("most"), set(0)),
	} {
		if ofSet, _ := check(t, n, l); ofSet != api.OK {
			t.Error(i, ofSet)
		}
	}
	if s, e := vars.Set(set(0, odd(400)...), nil); e != api.OK || !slices.Equal(s, oddRanges(400)) {
		t.Error(len(s), e)
	}
	for _, n := range []api.Node{
		set(0, odd(401)...),
		set(1, odd(401)...),
		set(1, odd(400)...),
		set(1, name("most")),
		set(1, append([]api.Node{one(0)}, odd(401)...)...),
		set(0, append(odd(401), reach(0, 900))...),
		set(0, append(odd(401), anyOne)...),
		set(1, append(odd(401), anyOne)...),
		set(0, name("most"), one(801)),
		set(0, name("most"), one(801), anyOne),
		set(0, name("low"), set(0, odd(401)[200:]...)),
		set(0, set(1, name("most")), anyOne),
		node(7, anyOne, name("most")),
		node(7, anyOne, node(7, anyOne, name("most"))),
		node(6, set(1), set(1, name("most"))),
		name("more"),
		set(0, anyOne, name("more")),
		node(6, name("more"), set(0)),
		node(7, set(0), name("more")),
	} {
		refuseSet(t, n, l, api.ErrMany)
	}
	// What a name stands for is taken as it is: it is no set that is made here.
	expect(t, name("more"), l, api.Pat{Kind: 2, Set: oddRanges(401)})
	// Two sets of few ranges both have more, the one and the other by turns.
	for _, x := range []struct {
		first, second int
		want          api.Errno
	}{{201, 200, api.OK}, {201, 201, api.ErrMany}, {249, 249, api.ErrMany}} {
		var first, second []api.Node
		for i := range x.first {
			first = append(first, reach(4*i, 4*i+2))
		}
		for i := range x.second {
			second = append(second, reach(4*i+2, 4*i+4))
		}
		both := node(6, set(0, first...), set(0, second...))
		less := node(7, set(0, first...), set(1, second...))
		for _, n := range []api.Node{both, less} {
			if ofSet, _ := check(t, n, nil); ofSet != x.want {
				t.Error(brief(n), ofSet)
			}
		}
	}
}

// P8.1: which of several errors is told first.
func TestWhichErrorIsFirst(t *testing.T) {
	l := []api.Var{{Name: "f", Pat: all}, {Name: "most", Pat: api.Pat{Kind: 2, Set: oddRanges(400)}, Set: true}}
	unknown, form, wrong := name("q"), name("f"), node(13)
	big := set(0, odd(401)...)
	for _, x := range []struct {
		n    api.Node
		want api.Errno
	}{
		{set(0, unknown, form), api.ErrName},
		{set(0, form, unknown), api.ErrKind},
		{set(0, unknown, big), api.ErrName},
		{set(0, big, unknown), api.ErrMany},
		{set(0, big, form), api.ErrMany},
		{set(0, form, big), api.ErrKind},
		{set(0, wrong, unknown), api.ErrKind},
		{set(0, unknown, wrong), api.ErrName},
		// A node's own ranges are too many behind all its Kids alone.
		{set(0, append(odd(401), unknown)...), api.ErrName},
		{set(0, append(odd(401), form)...), api.ErrKind},
		{set(0, append(odd(401), anyOne, none)...), api.ErrKind},
		{set(1, append(odd(400), unknown)...), api.ErrName},
		{set(0, name("most"), one(801), unknown), api.ErrName},
		{set(0, set(0, append(odd(401), unknown)...), form), api.ErrName},
		{set(0, set(0, append(odd(401), form)...), unknown), api.ErrKind},
		{set(0, set(0, odd(401)...), set(0, unknown)), api.ErrMany},
		{node(6, unknown, form), api.ErrName},
		{node(6, form, unknown), api.ErrKind},
		{node(7, big, unknown), api.ErrMany},
		{node(7, unknown, big), api.ErrName},
		{node(7, anyOne, node(7, name("most"), unknown)), api.ErrName},
		{node(7, node(7, anyOne, name("most")), unknown), api.ErrMany},
	} {
		refuseSet(t, x.n, l, x.want)
	}
	for _, x := range []struct {
		n    api.Node
		want api.Errno
	}{
		{node(8, unknown, wrong), api.ErrName},
		{node(8, wrong, unknown), api.ErrKind},
		{node(9, set(0, form), unknown), api.ErrKind},
		{node(9, unknown, set(0, form)), api.ErrName},
		{node(8, big, unknown), api.ErrMany},
		{node(8, unknown, big), api.ErrName},
		{node(10, wrong, unknown, big), api.ErrKind},
		{node(8, none, node(9, none, node(12, unknown)), wrong), api.ErrName},
		// How many nodes there are is told at last.
		{node(8, wide(301), unknown), api.ErrName},
		{node(8, wide(301), reach(1, 2)), api.ErrKind},
		{node(8, wide(301), wide(301), set(0, unknown)), api.ErrName},
		{node(9, append(slices.Repeat([]api.Node{anyOne}, 400), wrong)...), api.ErrKind},
	} {
		refuseFirst(t, x.n, l, x.want)
	}
	refuse(t, node(8, wide(301), none), l, api.ErrMany)
}

// wide: a form that has so many nodes.
func wide(many int) api.Node {
	return node(9, slices.Repeat([]api.Node{anyOne}, many-1)...)
}

// chain: a node within so many others.
func chain(many int, n api.Node) api.Node {
	for range many {
		n = node(11, n)
	}
	return n
}

// giveAll: names for forms, one after the other.
func giveAll(t *testing.T, l []api.Var, forms ...api.Node) []api.Var {
	t.Helper()
	for _, n := range forms {
		m, e := vars.Give(l, api.Item{Kind: 1, Name: fmt.Sprint("n", len(l)), Before: n, Pos: 3 * len(l)})
		if e != api.OK {
			t.Fatal(len(l), e)
		}
		l = m
	}
	return l
}

// P8.1: forms of 300 nodes and of 301, by names of many nodes.
func TestManyNodes(t *testing.T) {
	l := giveAll(t, nil, wide(100), wide(300), name("n1"), set(0, odd(400)...), node(8, name("n0"), name("n0")), anyOne)
	n0, n1, n3, n4, n5 := name("n0"), name("n1"), name("n3"), name("n4"), name("n5")
	for i, n := range []api.Node{
		wide(300),
		chain(199, anyOne),
		chain(199, wide(101)),
		n1,
		name("n2"),
		node(8, append(slices.Repeat([]api.Node{none}, 99), n0, n0)...),
		node(9, n0, n0, wide(99)),
		node(9, n4, wide(98)),
		chain(99, n4),
		node(12, append([]api.Node{n4}, slices.Repeat([]api.Node{n5}, 98)...)...),
		node(8, slices.Repeat([]api.Node{n3}, 299)...),
		node(8, append(slices.Repeat([]api.Node{none}, 298), set(1, odd(399)...))...),
		node(9, slices.Repeat([]api.Node{set(0, set(0, one(1)), set(0, one(2)))}, 299)...),
	} {
		if _, ofForm := check(t, n, l); ofForm != api.OK {
			t.Error(i, ofForm)
		}
	}
	for _, n := range []api.Node{
		wide(301), wide(302), wide(1000), wide(200000),
		chain(200, wide(101)),
		node(10, n1),
		node(8, n1),
		node(10, name("n2")),
		node(8, append(slices.Repeat([]api.Node{none}, 100), n0, n0)...),
		node(9, n0, n0, wide(100)),
		node(9, n0, n0, n0),
		node(9, n4, wide(99)),
		chain(100, n4),
		node(8, n4, n4),
		node(8, slices.Repeat([]api.Node{n3}, 300)...),
		node(8, slices.Repeat([]api.Node{n1}, 5000)...),
	} {
		if _, ofForm := check(t, n, l); ofForm != api.ErrMany {
			t.Error(brief(n), ofForm)
		}
	}
}

// P8.1: 30 names and one more, a name that is given twice, an item that is no name; which of these is told first.
func TestGive(t *testing.T) {
	full := giveAll(t, nil, slices.Repeat([]api.Node{set(0, one('x'))}, 30)...)
	for i, v := range full {
		if v.Name != fmt.Sprint("n", i) || v.Pos != 3*i || !v.Set || show(v.Pat) != show(patSet('x', 'x')) {
			t.Error(i, showVars([]api.Var{v}))
		}
		if vars.Find(full, v.Name) != i {
			t.Error(i, vars.Find(full, v.Name))
		}
	}
	more := append(slices.Clone(full), api.Var{Name: "n30"})
	same := slices.Repeat([]api.Var{{Name: "s", Pat: all, Set: true}}, 30)
	item := func(kind int, name string, n api.Node) api.Item {
		return api.Item{Kind: kind, Name: name, Before: n, Pos: 5}
	}
	for i, x := range []struct {
		l    []api.Var
		x    api.Item
		want api.Errno
	}{
		{full[:29], item(1, "new", anyOne), api.OK},
		{full[:1], item(1, "n1", anyOne), api.OK},
		{same[:29], item(1, "new", name("s")), api.OK},
		{nil, item(1, "", anyOne), api.OK},
		{full, item(1, "new", anyOne), api.ErrMany},
		{more, item(1, "new", anyOne), api.ErrMany},
		{same, item(1, "new", anyOne), api.ErrMany},
		{full, item(1, "new", name("q")), api.ErrMany},
		{full, item(1, "n7", anyOne), api.ErrTwice},
		{more, item(1, "n30", anyOne), api.ErrTwice},
		{full[:8], item(1, "n7", anyOne), api.ErrTwice},
		{full[:8], item(1, "n0", name("q")), api.ErrTwice},
		{full[:8], item(1, "new", name("new")), api.ErrName},
		{full[:8], item(1, "new", name("n8")), api.ErrName},
		{full[:8], item(1, "new", reach(1, 2)), api.ErrKind},
		{full[:8], item(1, "new", api.Node{}), api.ErrKind},
		{full[:8], item(1, "new", set(0, odd(401)...)), api.ErrMany},
		{full[:8], item(2, "new", anyOne), api.ErrArg},
		{full[:8], item(3, "new", anyOne), api.ErrArg},
		{full, item(2, "n7", name("q")), api.ErrArg},
		{full, item(0, "n7", name("q")), api.ErrArg},
		{nil, api.Item{}, api.ErrArg},
		{nil, item(4, "new", anyOne), api.ErrArg},
		{nil, item(-1, "new", anyOne), api.ErrArg},
	} {
		m, e := vars.Give(x.l, x.x)
		if e != x.want || e != api.OK && len(m) != 0 {
			t.Error(i, e, showVars(m))
		}
		if e == api.OK && (len(m) != len(x.l)+1 || showVars(m[:len(x.l)]) != showVars(x.l) || m[len(x.l)].Name != x.x.Name) {
			t.Error(i, showVars(m))
		}
	}
	// What isn't asked of an ItemName says nothing.
	x := api.Item{Kind: 1, Name: "9 a", Number: 3, Cut: true, Before: none, After: node(13), Pos: -8}
	if m, e := vars.Give(nil, x); e != api.OK || showVars(m) != showVars([]api.Var{{Name: "9 a", Pat: pat(1), Pos: -8}}) {
		t.Error(showVars(m), e)
	}
}

// P8.1: forms that differ in one thing alone.
func TestSame(t *testing.T) {
	whole := func() api.Pat {
		deep := pat(5, api.Pat{Kind: 2, Set: ranges(1, 3, 5, 9), Signs: []int{4, 7}})
		return pat(3, patSet(2, 2), pat(4, deep, pat(1)), deep)
	}
	if !vars.Same(whole(), whole()) || !vars.Same(api.Pat{}, api.Pat{}) || vars.Same(whole(), api.Pat{}) || vars.Same(api.Pat{}, whole()) {
		t.Error("whole")
	}
	for i, change := range []func(p *api.Pat){
		func(p *api.Pat) { p.Kind = 4 },
		func(p *api.Pat) { p.Set = ranges(1, 1) },
		func(p *api.Pat) { p.Signs = []int{0} },
		func(p *api.Pat) { p.Kids = p.Kids[:2] },
		func(p *api.Pat) { p.Kids = p.Kids[1:] },
		func(p *api.Pat) { p.Kids = nil },
		func(p *api.Pat) { p.Kids = append(p.Kids, pat(1)) },
		func(p *api.Pat) { p.Kids[0], p.Kids[1] = p.Kids[1], p.Kids[0] },
		func(p *api.Pat) { p.Kids[0].Set[0].Low = 1 },
		func(p *api.Pat) { p.Kids[0].Set[0].High = 3 },
		func(p *api.Pat) { p.Kids[0].Set = nil },
		func(p *api.Pat) { p.Kids[1].Kids[1].Kind = 0 },
		func(p *api.Pat) { p.Kids[1].Kids[0].Kids[0].Set = ranges(1, 3) },
		func(p *api.Pat) { p.Kids[1].Kids[0].Kids[0].Signs = []int{7, 4} },
		func(p *api.Pat) { p.Kids[1].Kids[0].Kids[0].Signs = []int{4} },
		func(p *api.Pat) { p.Kids[1].Kids[0].Kids[0].Signs = nil },
		func(p *api.Pat) { p.Kids[2] = pat(5, api.Pat{Kind: 2, Set: ranges(1, 3, 5, 8), Signs: []int{4, 7}}) },
		func(p *api.Pat) { p.Kids[2] = pat(5, api.Pat{Kind: 2, Set: ranges(1, 3, 5, 9), Signs: []int{4, 8}}) },
	} {
		p := whole()
		change(&p)
		if vars.Same(p, whole()) || vars.Same(whole(), p) || !vars.Same(p, p) {
			t.Error(i)
		}
	}
	// What holds nothing may be nil or empty.
	empty := api.Pat{Kind: 1, Set: []api.Range{}, Signs: []int{}, Kids: []api.Pat{}}
	if !vars.Same(empty, pat(1)) || !vars.Same(pat(1), empty) {
		t.Error("empty")
	}
	deep, deeper := all, all
	for range 200 {
		deep = pat(5, deep)
		deeper = pat(5, deeper)
	}
	if !vars.Same(deep, deeper) || vars.Same(deep, pat(5, deep)) || vars.Same(deep.Kids[0], deep) {
		t.Error("deep")
	}
}

// P8.1: one node, some, 100000 and more.
func TestSize(t *testing.T) {
	if vars.Size(api.Pat{}) != 1 || vars.Size(pat(1)) != 1 || vars.Size(all) != 1 || vars.Size(pat(3, all, pat(4, all, all), pat(1))) != 6 {
		t.Error("some")
	}
	for _, many := range []int{2, 300, 301, 99999, 100000, 100001, 100002, 250000} {
		flat := pat(3, slices.Repeat([]api.Pat{all}, many-1)...)
		if got := vars.Size(flat); got != min(many, 100000) {
			t.Error(many, got)
		}
		if got := vars.Size(pat(5, flat)); got != min(many+1, 100000) {
			t.Error(many, got)
		}
		if got := vars.Size(pat(3, pat(1), flat, pat(1))); got != min(many+3, 100000) {
			t.Error(many, got)
		}
	}
	deep := all
	for range 200 {
		deep = pat(5, deep)
	}
	if vars.Size(deep) != 201 {
		t.Error(vars.Size(deep))
	}
}

// doubled: a node, so many times put in the place of both Kids of another one, which share their memory.
func doubled(n api.Node, times int, kinds ...int) api.Node {
	for i := range times {
		n = node(kinds[i%len(kinds)], n, n)
	}
	return n
}

// P8.1: Kids that are shared many times over, which no one could write out.
func TestSharedKids(t *testing.T) {
	l := []api.Var{{Name: "s", Pat: patSet('b', 'd'), Set: true}}
	for _, x := range []struct {
		n    api.Node
		want api.Errno
	}{
		{anyOne, api.ErrMany}, {name("s"), api.ErrMany}, {set(1, one(4)), api.ErrMany},
		{name("q"), api.ErrName}, {node(13), api.ErrKind}, {set(0, name("q")), api.ErrName}, {set(0, none), api.ErrKind}, {set(0, odd(401)...), api.ErrMany},
	} {
		huge := doubled(x.n, 199, 8, 9, 10)
		if p, e := vars.Expand(huge, l); show(p) != show(api.Pat{}) || e != x.want {
			t.Error(show(p), e, x.want)
		}
		if m, e := vars.Give(l, api.Item{Kind: 1, Name: "new", Before: huge}); len(m) != 0 || e != x.want {
			t.Error(showVars(m), e, x.want)
		}
		if _, e := vars.Expand(node(8, huge, name("q")), l); x.want == api.ErrMany && x.n.Kind != 4 && e != api.ErrName {
			t.Error(e)
		}
	}
	for _, kinds := range [][]int{{4}, {6}, {4, 6}} {
		huge := doubled(name("s"), 199, kinds...)
		if s, e := vars.Set(huge, l); e != api.OK || !slices.Equal(s, ranges('b', 'd')) {
			t.Error(s, e)
		}
		if _, e := vars.Set(doubled(name("q"), 199, kinds...), l); e != api.ErrName {
			t.Error(e)
		}
	}
	if s, e := vars.Set(doubled(name("s"), 199, 7), l); e != api.OK || len(s) != 0 {
		t.Error(s, e)
	}
	// One memory, but not as many of it, or not of it alone what is asked.
	kids := []api.Node{set(0, one('a')), set(0, one('b')), set(0, one('c'))}
	check(t, node(8, node(9, kids...), node(9, kids[:2]...), node(9, kids[1:]...), set(0, kids...), set(0, kids[:2]...), set(1, kids...)), l)
	check(t, node(8, node(6, kids[:2]...), kids[0]), l)
	check(t, set(0, node(6, kids[:2]...), node(7, kids[:2]...), set(1, kids[:2]...)), l)

	p, q, r := all, all, patSet(0, top-1)
	for range 199 {
		p, q, r = pat(3, p, p), pat(3, q, q), pat(3, r, r)
	}
	if !vars.Same(p, q) || !vars.Same(p, p) || vars.Same(p, r) || vars.Same(p, pat(3, q, q)) || vars.Same(pat(3, p, q), pat(3, p, r)) {
		t.Error("shared")
	}
	if vars.Size(p) != 100000 || vars.Size(pat(3, pat(1), p)) != 100000 {
		t.Error(vars.Size(p))
	}
}

// maker makes forms and names that hang on its seed alone.
type maker struct {
	seed  uint32
	names []string
	wrong int // one node of so many is as none is that layer 6 makes
	great int // one name of so many is one of the first three
}

func (m *maker) next(n int) int {
	m.seed = m.seed*1664525 + 1013904223
	return int(m.seed>>8) % n
}

func (m *maker) name() api.Node {
	switch {
	case m.next(m.wrong) == 0:
		return name("nobody")
	case m.next(m.great) == 0:
		return name(m.names[m.next(3)])
	}
	return name(m.names[m.next(len(m.names))])
}

func (m *maker) reach() api.Node {
	ends := []int{math.MinInt, -3, 0, 0, few, top - 1, top}
	low, high := m.next(30), m.next(30)
	if m.next(8) == 0 {
		low = ends[m.next(len(ends))]
	}
	if m.next(8) == 0 {
		high = []int{math.MinInt, -1, few - 1, top - 2, top - 1, top, top + 1, math.MaxInt}[m.next(8)]
	} else if m.next(6) > 0 {
		high = max(low, min(low, few)+m.next(4))
		if high >= few {
			high = top
		}
	}
	return reach(low, high)
}

func (m *maker) kids(most int, kid func() api.Node) []api.Node {
	var l []api.Node
	for range m.next(most + 1) {
		l = append(l, kid())
	}
	return l
}

// member: what may stand in a set, so deep, or what may not.
func (m *maker) member(deep int) api.Node {
	kid := func() api.Node { return m.member(deep - 1) }
	if m.next(m.wrong) == 0 {
		return node(m.next(16)-1, m.kids(3, kid)...)
	}
	kind := m.next(10)
	switch {
	case deep == 0 || kind < 3:
		return m.reach()
	case kind < 5:
		return m.name()
	case kind < 7:
		return node(6+m.next(2), kid(), kid())
	case kind == 7:
		return anyOne
	}
	return set(m.next(2), m.kids(4, kid)...)
}

// form: of layer 6's kinds, so deep, or of others.
func (m *maker) form(deep int) api.Node {
	kid := func() api.Node { return m.form(deep - 1) }
	if m.next(m.wrong) == 0 {
		return m.member(2)
	}
	kind := m.next(12)
	switch {
	case kind == 0:
		return none
	case kind == 1:
		return anyOne
	case deep == 0 || kind < 4:
		return set(m.next(2), m.kids(3, func() api.Node { return m.member(3) })...)
	case kind < 7:
		return m.name()
	case kind < 9:
		return node(10+m.next(3), kid())
	}
	return node(8+m.next(2), append(m.kids(3, kid), kid(), kid())...)
}

// strange: a name, as no one gave it.
func (m *maker) strange(i int) api.Var {
	p := pat(1+m.next(7), slices.Repeat([]api.Pat{all, pat(1)}, m.next(3))...)
	for range m.next(4) {
		r := m.reach()
		p.Set = append(p.Set, api.Range{Low: r.Low, High: r.High})
	}
	for range m.next(3) {
		p.Signs = append(p.Signs, m.next(5))
	}
	return api.Var{Name: fmt.Sprint("n", m.next(i+1)), Pat: p, Set: m.next(3) > 0, Pos: m.next(99)}
}

// giveForms: names for forms, in this order.
func giveForms(t *testing.T, forms map[string]api.Node, names ...string) []api.Var {
	t.Helper()
	var l []api.Var
	for _, s := range names {
		g, e := vars.Give(l, api.Item{Kind: 1, Name: s, Before: forms[s]})
		if e != api.OK {
			t.Fatal(s, e)
		}
		l = g
	}
	return l
}

// greatNames: of many ranges, and of many nodes; their forms.
func greatNames(t *testing.T) ([]api.Var, map[string]api.Node) {
	t.Helper()
	forms := map[string]api.Node{"left": set(0, many(1, 4, 220)...), "right": set(0, many(3, 4, 220)...), "wide": wide(120), "most": set(0, many(3, 4, 180)...)}
	return giveForms(t, forms, "left", "right", "wide", "most"), forms
}

// many: ranges of one character, so many, from one on, so far from one another.
func many(from, step, count int) []api.Node {
	var l []api.Node
	for i := range count {
		l = append(l, one(from+step*i))
	}
	return l
}

// P8.1: many forms, right and wrong, by names that were given, and by such as no one gave.
func TestManyForms(t *testing.T) {
	met := map[int]int{}
	great, _ := greatNames(t)
	for seed := range uint32(2000) {
		m := &maker{seed: seed * 2654435761, names: []string{"left", "right", "wide"}, wrong: 8 + int(seed%4)*30, great: 1 + int(seed%5)}
		l := slices.Clone(great[:3])
		for i := range 8 {
			v := m.strange(i)
			if seed%2 == 0 {
				x := api.Item{Kind: 1, Name: fmt.Sprint("n", i), Before: m.form(2)}
				if g, e := vars.Give(l, x); e == api.OK {
					v = g[len(g)-1]
				}
			}
			l = append(l, v)
			m.names = append(m.names, v.Name)
		}
		for range 4 {
			for _, n := range []api.Node{m.form(4), set(0, m.member(5))} {
				ofSet, ofForm := check(t, n, l)
				met[int(ofSet)]++
				met[int(ofForm)]++
			}
		}
	}
	if met[0] < 10000 || met[10] < 800 || met[12] < 1000 || met[9] < 50 {
		t.Error(met)
	}
}

// written: a form, each name's own form written in its place.
func written(n api.Node, forms map[string]api.Node) api.Node {
	if form, known := forms[n.Name]; known && n.Kind == 2 {
		return written(form, forms)
	}
	n.Kids = slices.Clone(n.Kids)
	for i, k := range n.Kids {
		n.Kids[i] = written(k, forms)
	}
	return n
}

// checkWritten: a form comes to the same as it does with what its names stand for in their places, and so written needs no names.
func checkWritten(t *testing.T, n api.Node, l []api.Var, forms map[string]api.Node) (ofSet, ofForm api.Errno) {
	t.Helper()
	w := written(n, forms)
	p, e := vars.Expand(n, l)
	s, f := vars.Set(n, l)
	for _, names := range [][]api.Var{nil, l, {{Name: "x", Pat: all}}} {
		if q, g := vars.Expand(w, names); g != e || !alike(p, q) {
			t.Fatalf("%s: %s %d, not %s %d", brief(n), show(q), g, show(p), e)
		}
		if r, g := vars.Set(w, names); g != f || !slices.Equal(r, s) {
			t.Fatalf("%s: %v %d, not %v %d", brief(n), r, g, s, f)
		}
	}
	return f, e
}

// P8.2: names held against what they stand for.
func TestWrittenInItsPlace(t *testing.T) {
	met := map[int]int{}
	for seed := range uint32(2000) {
		m := &maker{seed: seed*2246822519 + 7, names: []string{"nobody"}, wrong: 30 + int(seed%3)*1000, great: 1 << 20}
		forms := map[string]api.Node{"nobody": set(1, one(9))}
		l := giveForms(t, forms, "nobody")
		for i := range 8 {
			x := api.Item{Kind: 1, Name: fmt.Sprint("n", i), Before: m.form(1)}
			if i%2 == 0 {
				x.Before = set(i/2%2, m.kids(2, func() api.Node { return m.member(2) })...)
			}
			_, want := checkWritten(t, x.Before, l, forms)
			g, e := vars.Give(l, x)
			if e != want {
				t.Fatal(e, want)
			}
			if e != api.OK {
				continue
			}
			l = g
			m.names = append(m.names, x.Name)
			forms[x.Name] = x.Before
		}
		for range 3 {
			for _, n := range []api.Node{m.form(3), set(0, m.member(4))} {
				ofSet, ofForm := checkWritten(t, n, l, forms)
				met[int(ofSet)]++
				met[int(ofForm)]++
			}
		}
	}
	if met[0] < 5000 || met[12] < 1000 {
		t.Error(met)
	}
}

// P8.2: likewise names of many ranges, and of many nodes.
func TestGreatOnesWrittenInTheirPlaces(t *testing.T) {
	l, forms := greatNames(t)
	left, right, most, big := name("left"), name("right"), name("most"), name("wide")
	for i, x := range []struct {
		n             api.Node
		ofSet, ofForm api.Errno
	}{
		{left, api.OK, api.OK},
		{set(0, left, most), api.OK, api.OK},
		{set(0, left, right), api.ErrMany, api.ErrMany},
		{set(0, left, right, anyOne), api.ErrMany, api.ErrMany},
		{set(0, anyOne, left, right), api.OK, api.OK},
		{node(6, set(1, left), set(1, right)), api.ErrMany, api.ErrKind},
		{node(7, anyOne, left), api.OK, api.ErrKind},
		{node(7, set(1, left), right), api.ErrMany, api.ErrKind},
		{set(1, set(1, left)), api.OK, api.OK},
		{set(0, left, big), api.ErrKind, api.ErrKind},
		{big, api.ErrKind, api.OK},
		{node(9, big, big), api.ErrKind, api.OK},
		{node(9, big, big, big), api.ErrKind, api.ErrMany},
		{node(8, big, big, set(0, left, right)), api.ErrKind, api.ErrMany},
		{node(8, big, node(10, big), wide(57)), api.ErrKind, api.OK},
		{node(8, big, node(10, big), wide(58)), api.ErrKind, api.OK},
		{node(8, big, node(10, big), wide(59)), api.ErrKind, api.ErrMany},
	} {
		ofSet, ofForm := checkWritten(t, x.n, l, forms)
		if ofSet != x.ofSet || ofForm != x.ofForm {
			t.Error(i, ofSet, ofForm)
		}
	}
}

// P8.2: texts with names, and the same ones without.
func TestTextsWithoutNames(t *testing.T) {
	l := given(t, "$a=[a-c]\n$b=$a [b]|()\n$c=($b $b)*\n$d=[^$a]\n$e=.\n$f=$d")
	for with, without := range map[string]string{
		"$a":               "[a-c]",
		"$b":               "[a-c] [b]|()",
		"$c+":              "((([a-c] [b]|()) ([a-c] [b]|()))*)+",
		"$a $c|$d?":        "[a-c] (([a-c] [b]|()) ([a-c] [b]|()))*|[^a-c]?",
		"[$a-[b]]":         "[a c]",
		"[$d&[a-e] $a&$e]": "[a-e]",
		"[^$f]":            "[[a-c]]",
		"$e*":              ".*",
		"[$e]":             "[^]",
	} {
		p, e := vars.Expand(parsed(t, with), l)
		q, f := vars.Expand(parsed(t, without), nil)
		r, g := vars.Expand(parsed(t, without), l)
		if e != api.OK || f != api.OK || g != api.OK || show(p) != show(q) || show(p) != show(r) {
			t.Errorf("%q: %s %d, %s %d, %s %d", with, show(p), e, show(q), f, show(r), g)
		}
	}
}

// wipe: all that a form's lists hold, their spare room too.
func wipe(p api.Pat) {
	for i := range p.Set[:cap(p.Set)] {
		p.Set[:cap(p.Set)][i] = api.Range{Low: -7, High: -7}
	}
	for i := range p.Signs[:cap(p.Signs)] {
		p.Signs[:cap(p.Signs)][i] = -7
	}
	room := p.Kids[:cap(p.Kids)]
	for i := range room {
		if i < len(p.Kids) {
			wipe(room[i])
		}
		room[i] = api.Pat{Kind: -7}
	}
}

// fillRoom: the spare room of all lists of a form.
func fillRoom(p api.Pat) {
	for i := len(p.Set); i < cap(p.Set); i++ {
		p.Set[:cap(p.Set)][i] = api.Range{Low: -7, High: -7}
	}
	for i := len(p.Signs); i < cap(p.Signs); i++ {
		p.Signs[:cap(p.Signs)][i] = -7
	}
	for i := range p.Kids[:cap(p.Kids)] {
		if i < len(p.Kids) {
			fillRoom(p.Kids[i])
		} else {
			p.Kids[:cap(p.Kids)][i] = api.Pat{Kind: -7}
		}
	}
}

// What is handed in isn't changed, its spare room neither; what Set and Expand answer is its own memory, and no two of its lists share any; Give's list is its own.
func TestWhatIsHandedInStays(t *testing.T) {
	room := []api.Node{name("s"), name("f"), name("s"), set(1, name("s"), name("t")), node(10, name("f")), name("spare")}
	shared := []api.Node{name("s"), name("t"), name("spare")}
	n := node(8, append(room[:5:6], node(9, shared[:2]...), node(9, shared[:2]...))...)
	n.Kids = append(n.Kids, name("spare"))[:len(n.Kids)]
	sets := []api.Range{{Low: 1, High: 3}, {Low: 2, High: 9}, {Low: 50, High: 60}}
	inner := api.Pat{Kind: 2, Set: sets[:2], Signs: []int{3, 4, 5}[:2]}
	vs := []api.Var{
		{Name: "s", Pat: inner, Set: true, Pos: 1},
		{Name: "f", Pat: api.Pat{Kind: 3, Kids: []api.Pat{inner, all, pat(1)}[:2]}, Pos: 2},
		{Name: "t", Pat: patSet(7, 8), Set: true, Pos: 3},
		{Name: "spare", Pat: pat(1)},
	}
	l := vs[:3]
	shownNode, shownKids, shownVars := showNode(n), showNode(node(8, shared...)), showVars(vs)
	unchanged := func() {
		t.Helper()
		if showNode(n) != shownNode || showNode(node(8, shared...)) != shownKids || showVars(vs) != shownVars || sets[2] != (api.Range{Low: 50, High: 60}) {
			t.Fatal("an argument changed")
		}
	}
	x := api.Item{Kind: 1, Name: "new", Before: n, Pos: 4}
	p, e := vars.Expand(n, l)
	s, e2 := vars.Set(name("s"), l)
	q, e3 := vars.Set(n.Kids[3], l)
	g, e4 := vars.Give(l, x)
	if e != api.OK || e2 != api.OK || e3 != api.OK || e4 != api.OK {
		t.Fatal(e, e2, e3, e4)
	}
	unchanged()
	shown, shownGiven := show(p), showVars(g)
	fillRoom(p)
	for _, v := range g[3:] {
		fillRoom(v.Pat)
	}
	if show(p) != shown || showVars(g) != shownGiven {
		t.Error("two lists of an answer share memory:", show(p), showVars(g))
	}
	wipe(p)
	wipe(g[3].Pat)
	clear(s[:cap(s)])
	clear(q[:cap(q)])
	clear(g[:cap(g)])
	unchanged()
	if vars.Find(l, "s") != 0 || !vars.Same(inner, inner) || vars.Size(l[1].Pat) != 3 {
		t.Error("asked")
	}
	unchanged()
	again, e := vars.Expand(n, l)
	if e != api.OK || show(again) != shown {
		t.Error(show(again), e)
	}
	// Names that are known stay so beside what is given behind them, and beside it a second time.
	first, _ := vars.Give(l, api.Item{Kind: 1, Name: "one", Before: anyOne})
	second, _ := vars.Give(l, api.Item{Kind: 1, Name: "two", Before: none})
	third, _ := vars.Give(first, api.Item{Kind: 1, Name: "three", Before: none})
	fourth, _ := vars.Give(first, api.Item{Kind: 1, Name: "four", Before: anyOne})
	if first[3].Name != "one" || second[3].Name != "two" || third[4].Name != "three" || fourth[4].Name != "four" || third[3].Name != "one" {
		t.Error("given over one another")
	}
	unchanged()
}
