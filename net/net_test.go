package net_test

import (
	"fmt"
	"math"
	"slices"
	"testing"

	"caesura/api"
	"caesura/net"
	"caesura/reach"
	"caesura/rule"
	"caesura/sign"
)

// signs, pat, row, or, star, plus, maybe: forms, written down.
func signs(l ...int) api.Pat { return api.Pat{Kind: api.PatSet, Signs: l} }

func pat(kind int, kids ...api.Pat) api.Pat { return api.Pat{Kind: kind, Kids: kids} }

func row(kids ...api.Pat) api.Pat { return pat(api.PatJoin, kids...) }

func or(kids ...api.Pat) api.Pat { return pat(api.PatOr, kids...) }

func star(kids ...api.Pat) api.Pat { return pat(api.PatStar, kids...) }

func plus(kids ...api.Pat) api.Pat { return pat(api.PatPlus, kids...) }

func maybe(kids ...api.Pat) api.Pat { return pat(api.PatMaybe, kids...) }

var empty = pat(api.PatEmpty)

// many: so many of one form.
func many(n int, p api.Pat) []api.Pat { return slices.Repeat([]api.Pat{p}, n) }

// deep: a form within so many others, of these kinds by turns, the first one next to it.
func deep(p api.Pat, many int, kinds ...int) api.Pat {
	for i := range many {
		p = pat(kinds[i%len(kinds)], p)
	}
	return p
}

// fromTo: the numbers from one to another one.
func fromTo(low, high int) []int {
	var l []int
	for i := low; i <= high; i++ {
		l = append(l, i)
	}
	return l
}

// made: a form's net, which must be one.
func made(t *testing.T, p api.Pat, signs int) api.Net {
	t.Helper()
	n, e := net.Of(p, signs)
	if e != api.OK || !net.Right(n) {
		t.Fatalf("%.300s over %d: %.300s %v", fmt.Sprint(p), signs, show(n), e)
	}
	return n
}

// does: layer 11's words: does a form match all of a list?
func does(p api.Pat, l []int) bool {
	one := len(p.Kids) == 1
	switch {
	case p.Kind == 1:
		return len(l) == 0
	case p.Kind == 2:
		return len(l) == 1 && slices.Contains(p.Signs, l[0])
	case p.Kind == 3 && len(p.Kids) == 0:
		return len(l) == 0
	case p.Kind == 3:
		return parted(l, 0, p.Kids[0], row(p.Kids[1:]...))
	case p.Kind == 4:
		return slices.ContainsFunc(p.Kids, func(k api.Pat) bool { return does(k, l) })
	case p.Kind == 5 && one:
		// What matches no sign adds nothing, so that each time may be of one sign at least.
		return len(l) == 0 || parted(l, 1, p.Kids[0], p)
	case p.Kind == 6 && one:
		return parted(l, 0, p.Kids[0], star(p.Kids[0]))
	case p.Kind == 7 && one:
		return len(l) == 0 || does(p.Kids[0], l)
	}
	return false
}

// parted: is the list of at least so many signs that one form matches, and of others that another one does?
func parted(l []int, least int, first, then api.Pat) bool {
	for i := least; i <= len(l); i++ {
		if does(first, l[:i]) && does(then, l[i:]) {
			return true
		}
	}
	return false
}

// numbered: a form whose sets each have their number from the left on as their one sign, and what their signs were, from 1 on.
func numbered(p api.Pat, had *[][]int) api.Pat {
	if p.Kind == 2 {
		*had = append(*had, p.Signs)
		return signs(len(*had) - 1)
	}
	q := pat(p.Kind)
	for _, k := range p.Kids {
		if p.Kind != 1 {
			q.Kids = append(q.Kids, numbered(k, had))
		}
	}
	return q
}

// edge: the chapter's words: the sets of a numbered form that may stand first; or last.
func edge(p api.Pat, last bool) []int {
	var l []int
	switch {
	case p.Kind == 2:
		return p.Signs
	case p.Kind == 3:
		for i, k := range p.Kids {
			beyond := p.Kids[:i]
			if last {
				beyond = p.Kids[i+1:]
			}
			if does(row(beyond...), nil) {
				l = append(l, edge(k, last)...)
			}
		}
	case p.Kind == 4 || p.Kind >= 5 && p.Kind <= 7 && len(p.Kids) == 1:
		for _, k := range p.Kids {
			l = append(l, edge(k, last)...)
		}
	}
	return l
}

// stand: the chapter's words: may this set of a numbered form stand right ahead of that one?
func stand(p api.Pat, ahead, behind int) bool {
	follows := func(a, b api.Pat) bool {
		return slices.Contains(edge(a, true), ahead) && slices.Contains(edge(b, false), behind)
	}
	for i, k := range p.Kids {
		if stand(k, ahead, behind) {
			return true
		}
		if (p.Kind == 5 || p.Kind == 6) && len(p.Kids) == 1 && follows(k, k) {
			return true
		}
		for j := i + 1; j < len(p.Kids) && p.Kind == 3; j++ {
			if follows(k, p.Kids[j]) && does(row(p.Kids[i+1:j]...), nil) {
				return true
			}
		}
	}
	return false
}

// told: the chapter's words for a form's net.
func told(p api.Pat, many int) api.Net {
	had := [][]int{nil}
	q := numbered(p, &had)
	n := api.Net{Signs: many}
	for s := range had {
		var by, follow []int
		for sign := range many {
			if slices.Contains(had[s], sign) {
				by = append(by, sign)
			}
		}
		for then := 1; then < len(had); then++ {
			if s == 0 && slices.Contains(edge(q, false), then) || s > 0 && stand(q, s, then) {
				follow = append(follow, then)
			}
		}
		n.By, n.Follow = append(n.By, by), append(n.Follow, follow)
		if s == 0 && does(q, nil) || s > 0 && slices.Contains(edge(q, true), s) {
			n.Last = append(n.Last, s)
		}
	}
	return n
}

// show: a net as a text, in which a list that holds nothing is one.
func show(n api.Net) string { return fmt.Sprint(n) }

// stepped: the chapter's words for a step of a net that is right.
func stepped(n api.Net, at []int, sign int) []int {
	var l []int
	for s := range n.By {
		for _, ahead := range at {
			there := ahead >= 0 && ahead < len(n.Follow)
			if there && slices.Contains(n.Follow[ahead], s) && slices.Contains(n.By[s], sign) && !slices.Contains(l, s) {
				l = append(l, s)
			}
		}
	}
	return l
}

// accepted: the chapter's words: does a net accept a list?
func accepted(n api.Net, l []int) bool {
	at := []int{0}
	for _, sign := range l {
		at = stepped(n, at, sign)
	}
	return slices.ContainsFunc(at, func(s int) bool { return slices.Contains(n.Last, s) })
}

// right: the chapter's words: is a net as it must be?
func right(n api.Net) bool {
	good := func(l []int, low, high int) bool {
		for i, x := range l {
			if x < low || x > high || i > 0 && l[i-1] >= x {
				return false
			}
		}
		return true
	}
	states := len(n.By)
	if n.Signs < 1 || n.Signs > 400 || states != len(n.Follow) || states < 1 || states > 301 || len(n.By[0]) > 0 {
		return false
	}
	for s := range states {
		if !good(n.By[s], 0, n.Signs-1) || !good(n.Follow[s], 1, states-1) {
			return false
		}
	}
	return good(n.Last, 0, states-1)
}

// lists: all lists of up to so many of the first few signs.
func lists(most, few int) [][]int {
	all := [][]int{nil}
	for i := 0; i < len(all); i++ {
		if len(all[i]) == most {
			continue
		}
		for sign := range few {
			all = append(all, append(slices.Clone(all[i]), sign))
		}
	}
	return all
}

// maker makes things of a number.
type maker struct{ seed uint32 }

func (m *maker) next(n int) int {
	m.seed = m.seed*1664525 + 1013904223
	return int((m.seed >> 16) % uint32(n))
}

// list: up to n numbers, few of them, one in so many less than 0.
func (m *maker) list(n int) []int {
	var l []int
	for range m.next(n + 1) {
		l = append(l, m.next(5)-1)
	}
	return l
}

// form: one, of all kinds and of others, some of them without just one Kid.
func (m *maker) form(depth int) api.Pat {
	p := api.Pat{Kind: 1 + m.next(7)}
	if m.next(30) == 0 {
		p.Kind = []int{0, -1, 8, 12, math.MinInt, math.MaxInt}[m.next(6)]
	}
	if depth == 0 && m.next(4) > 0 {
		p.Kind = api.PatSet
	}
	if p.Kind == api.PatSet || m.next(9) == 0 {
		p.Signs = m.list(3)
		p.Set = []api.Range{{Low: m.next(5), High: m.next(5)}}
	}
	if depth == 0 || p.Kind < api.PatJoin && m.next(9) > 0 {
		return p
	}
	kids := m.next(5)
	if p.Kind >= api.PatStar && m.next(9) > 0 {
		kids = 1
	}
	for range kids {
		p.Kids = append(p.Kids, m.form(depth-1))
	}
	return p
}

// net: one that is right, but whatever form it may be of.
func (m *maker) net() api.Net {
	n := api.Net{Signs: 1 + m.next(3)}
	states := 1 + m.next(5)
	some := func(low, high int) []int {
		var l []int
		for i := low; i < high; i++ {
			if m.next(2) == 0 {
				l = append(l, i)
			}
		}
		return l
	}
	for s := range states {
		n.By = append(n.By, some(0, n.Signs*min(s, 1)))
		n.Follow = append(n.Follow, some(1, states))
	}
	n.Last = some(0, states)
	return n
}

// bent: a net, one or two numbers or lists of which are others.
func (m *maker) bent(n api.Net) api.Net {
	lists := slices.Concat(n.By, n.Follow, [][]int{n.Last})
	for i := range lists {
		lists[i] = slices.Clone(lists[i])
	}
	for range 1 + m.next(2) {
		i := m.next(len(lists))
		if len(lists[i]) > 0 && m.next(2) == 0 {
			lists[i][m.next(len(lists[i]))] = m.next(7) - 1
		} else {
			lists[i] = append(lists[i], m.next(7)-1)
		}
	}
	n.By, n.Follow, n.Last = lists[:len(n.By)], lists[len(n.By):len(lists)-1], lists[len(lists)-1]
	switch m.next(12) {
	case 0:
		n.Signs = []int{0, -1, 401, math.MinInt, math.MaxInt}[m.next(5)]
	case 1:
		n.By = n.By[:len(n.By)-1]
	case 2:
		n.Follow = append(slices.Clone(n.Follow), nil)
	}
	return n
}

// P13.1: the document's example.
func TestExample(t *testing.T) {
	x, at, e := rule.Read([]byte("3 ([a][b])* \u00d7"))
	if e != api.OK {
		t.Fatal(at, e)
	}
	atoms, _ := sign.Of([]api.Book{x})
	l, _ := sign.Word(atoms, []int{'a', 'b'})
	n := made(t, sign.Tell(x.Rules[0].Before, atoms), len(atoms))
	want := api.Net{Signs: 3, By: [][]int{nil, {l[0]}, {l[1]}}, Follow: [][]int{{1}, {2}, {1}}, Last: []int{0, 2}}
	if show(n) != show(want) || !net.Same(n, want) {
		t.Error(n)
	}
}

// P13.1: nets of forms, written out, so that no fault of the checks hides one: what follows each state, and where it may end.
func TestWrittenOut(t *testing.T) {
	a, b, c := signs(0), signs(1), signs(2)
	none := or()
	for i, x := range []struct {
		p      api.Pat
		follow [][]int
		last   []int
	}{
		{empty, [][]int{nil}, []int{0}},
		{pat(api.PatEmpty, a, star(b)), [][]int{nil}, []int{0}},
		{a, [][]int{{1}, nil}, []int{1}},
		{signs(), [][]int{{1}, nil}, []int{1}},
		{api.Pat{Kind: api.PatSet, Signs: []int{0}, Kids: []api.Pat{b, c}}, [][]int{{1}, nil}, []int{1}},
		{row(), [][]int{nil}, []int{0}},
		{row(a), [][]int{{1}, nil}, []int{1}},
		{row(a, b, c), [][]int{{1}, {2}, {3}, nil}, []int{3}},
		{row(row(a, b), row(), row(c, a)), [][]int{{1}, {2}, {3}, {4}, nil}, []int{4}},
		{row(empty, a, maybe(none), b, star(empty)), [][]int{{1}, {2}, nil}, []int{2}},
		{row(maybe(a), star(b), maybe(c)), [][]int{{1, 2, 3}, {2, 3}, {2, 3}, nil}, []int{0, 1, 2, 3}},
		{row(maybe(a), b, maybe(c)), [][]int{{1, 2}, {2}, {3}, nil}, []int{2, 3}},
		{row(a, none, b), [][]int{{1}, nil, nil}, []int{2}},
		{row(maybe(a), none, maybe(b)), [][]int{{1}, nil, nil}, []int{2}},
		{row(a, none), [][]int{{1}, nil}, nil},
		{row(none, a), [][]int{nil, nil}, []int{1}},
		{row(signs(), a), [][]int{{1}, {2}, nil}, []int{2}},
		{or(), [][]int{nil}, nil},
		{or(a), [][]int{{1}, nil}, []int{1}},
		{or(empty), [][]int{nil}, []int{0}},
		{or(a, row(b, c), empty), [][]int{{1, 2}, nil, {3}, nil}, []int{0, 1, 3}},
		{row(or(a, b), or(c, empty), a), [][]int{{1, 2}, {3, 4}, {3, 4}, {4}, nil}, []int{4}},
		{star(a), [][]int{{1}, {1}}, []int{0, 1}},
		{plus(a), [][]int{{1}, {1}}, []int{1}},
		{maybe(a), [][]int{{1}, nil}, []int{0, 1}},
		{plus(maybe(a)), [][]int{{1}, {1}}, []int{0, 1}},
		{plus(none), [][]int{nil}, nil},
		{star(none), [][]int{nil}, []int{0}},
		{maybe(none), [][]int{nil}, []int{0}},
		{star(row(maybe(a), b, maybe(c))), [][]int{{1, 2}, {2}, {1, 2, 3}, {1, 2}}, []int{0, 2, 3}},
		{plus(or(a, row(b, c))), [][]int{{1, 2}, {1, 2}, {3}, {1, 2}}, []int{1, 3}},
		{star(), [][]int{nil}, nil},
		{plus(), [][]int{nil}, nil},
		{maybe(), [][]int{nil}, nil},
		{star(a, b), [][]int{nil, nil, nil}, nil},
		{maybe(row(a, b), star(c)), [][]int{nil, {2}, nil, {3}}, nil},
		{plus(star(a), empty), [][]int{nil, {1}}, nil},
		{row(a, star(b, c), a), [][]int{{1}, nil, nil, nil, nil}, []int{4}},
		{row(a, maybe(), b), [][]int{{1}, nil, nil}, []int{2}},
		{pat(0), [][]int{nil}, nil},
		{pat(8, row(a, b)), [][]int{nil, {2}, nil}, nil},
		{pat(math.MinInt, a), [][]int{nil, nil}, nil},
		{row(a, pat(math.MaxInt, plus(b)), c), [][]int{{1}, nil, {2}, nil}, []int{3}},
		{or(pat(-1, a), b), [][]int{{2}, nil, nil}, []int{2}},
		{star(pat(12, a)), [][]int{nil, nil}, []int{0}},
	} {
		n := made(t, x.p, 3)
		if n.Signs != 3 || len(n.By) != len(x.follow) || len(n.By[0]) > 0 || show(api.Net{Follow: n.Follow, Last: n.Last}) != show(api.Net{Follow: x.follow, Last: x.last}) {
			t.Errorf("%d: %v: %v", i, x.p, n)
		}
	}
}

// P13.1: a state's signs: those of its set that there are, rising, each once.
func TestSigns(t *testing.T) {
	given := []int{math.MaxInt, 5, 2, 2, -1, 400, 399, 0, 448, 64, 63, 5, math.MinInt, 401, 447, 3, 1 << 40, -64}
	p := row(signs(given...), signs(), star(signs(2, 1), signs(0)))
	for i, x := range []struct {
		signs int
		by    [][]int
	}{
		{1, [][]int{nil, {0}, nil, nil, {0}}},
		{2, [][]int{nil, {0}, nil, {1}, {0}}},
		{3, [][]int{nil, {0, 2}, nil, {1, 2}, {0}}},
		{5, [][]int{nil, {0, 2, 3}, nil, {1, 2}, {0}}},
		{6, [][]int{nil, {0, 2, 3, 5}, nil, {1, 2}, {0}}},
		{64, [][]int{nil, {0, 2, 3, 5, 63}, nil, {1, 2}, {0}}},
		{65, [][]int{nil, {0, 2, 3, 5, 63, 64}, nil, {1, 2}, {0}}},
		{400, [][]int{nil, {0, 2, 3, 5, 63, 64, 399}, nil, {1, 2}, {0}}},
	} {
		if n := made(t, p, x.signs); n.Signs != x.signs || show(api.Net{By: n.By}) != show(api.Net{By: x.by}) {
			t.Error(i, n)
		}
	}
	n := made(t, signs(fromTo(-9, 999)...), 400)
	if !slices.Equal(n.By[1], fromTo(0, 399)) || !net.Accepts(n, []int{399}) || net.Accepts(n, []int{400}) {
		t.Error(n)
	}
}

// P13.1: signs from 1 to 400, up to 300 nodes; ErrArg ahead of ErrMany; beside an error there is no net.
func TestErrors(t *testing.T) {
	a := signs(0)
	full, more := row(many(299, a)...), row(many(300, a)...)
	for i, x := range []struct {
		p     api.Pat
		signs int
		want  api.Errno
	}{
		{a, 0, api.ErrArg}, {a, 1, api.OK}, {a, 400, api.OK}, {a, 401, api.ErrArg},
		{a, -1, api.ErrArg}, {a, math.MinInt, api.ErrArg}, {a, math.MaxInt, api.ErrArg},
		{full, 400, api.OK}, {more, 400, api.ErrMany}, {full, 401, api.ErrArg}, {more, 401, api.ErrArg}, {more, 0, api.ErrArg}, {more, 1, api.ErrMany},
		{pat(api.PatEmpty, full), 2, api.ErrMany}, {pat(api.PatEmpty, many(299, a)...), 2, api.OK},
		{pat(api.PatSet, more), 2, api.ErrMany}, {pat(99, more), 2, api.ErrMany}, {star(more, empty), 2, api.ErrMany},
		{deep(row(many(99, a)...), 200, api.PatStar, api.PatPlus), 2, api.OK}, {deep(row(many(100, a)...), 200, api.PatStar, api.PatPlus), 2, api.ErrMany},
	} {
		n, e := net.Of(x.p, x.signs)
		if e != x.want || e != api.OK && show(n) != show(api.Net{}) || e == api.OK && !net.Right(n) {
			t.Errorf("%d: %v %.300s", i, e, show(n))
		}
	}
	knot := a
	for range 200 {
		knot = row(knot, knot)
	}
	if n, e := net.Of(knot, 1); e != api.ErrMany || show(n) != show(api.Net{}) {
		t.Error(e)
	}
}

// P13.1: forms as great as may be: all sets follow all, and lists are long.
func TestGreat(t *testing.T) {
	n := made(t, star(or(many(298, signs(0, 399))...)), 400)
	all := fromTo(1, 298)
	for s, f := range n.Follow {
		if !slices.Equal(f, all) {
			t.Fatal(s, f)
		}
	}
	if !slices.Equal(n.Last, fromTo(0, 298)) || len(n.By) != 299 {
		t.Error(n.Last)
	}
	long := slices.Repeat([]int{0, 399}, 200000)
	if !net.Accepts(n, long) || net.Accepts(n, append(long, 1)) || !slices.Equal(net.Step(n, all, 399), all) {
		t.Error("long")
	}
}

// P13.1: rows of what may be left out: each stands ahead of all others.
func TestLeftOut(t *testing.T) {
	n := made(t, row(many(149, maybe(signs(1)))...), 2)
	for s, f := range n.Follow {
		if !slices.Equal(f, fromTo(s+1, 149)) {
			t.Fatal(s, f)
		}
	}
	if !slices.Equal(n.Last, fromTo(0, 149)) {
		t.Error(n.Last)
	}
	ones := slices.Repeat([]int{1}, 150)
	if !net.Accepts(n, ones[:149]) || net.Accepts(n, ones) || !net.Accepts(n, nil) {
		t.Error("ones")
	}
}

// P13.1, P13.2: forms within 200 others.
func TestDeep(t *testing.T) {
	ab := row(signs(0), signs(1))
	for i, x := range []struct {
		kinds  []int
		follow [][]int
		last   []int
	}{
		{[]int{api.PatStar}, [][]int{{1}, {2}, {1}}, []int{0, 2}},
		{[]int{api.PatPlus}, [][]int{{1}, {2}, {1}}, []int{2}},
		{[]int{api.PatMaybe}, [][]int{{1}, {2}, nil}, []int{0, 2}},
		{[]int{api.PatJoin, api.PatOr}, [][]int{{1}, {2}, nil}, []int{2}},
		{[]int{api.PatPlus, api.PatJoin, api.PatMaybe, api.PatOr}, [][]int{{1}, {2}, {1}}, []int{0, 2}},
		{[]int{99}, [][]int{nil, {2}, nil}, nil},
	} {
		n := made(t, deep(ab, 200, x.kinds...), 2)
		if show(api.Net{Follow: n.Follow, Last: n.Last}) != show(api.Net{Follow: x.follow, Last: x.last}) {
			t.Error(i, n)
		}
	}
}

// P13.1: nets of many forms are as the words say.
func TestOfMany(t *testing.T) {
	m := &maker{seed: 13}
	count := map[string]int{}
	for range 6000 {
		p, many := m.form(1+m.next(5)), 1+m.next(4)
		n, want := made(t, p, many), told(p, many)
		if show(n) != show(want) {
			t.Fatalf("%v over %d: %v, not %v", p, many, n, want)
		}
		if !net.Same(n, want) || !right(n) {
			t.Fatalf("%v: %v", p, n)
		}
		if len(n.By) > 6 {
			count["of more than six states"]++
		}
		if len(n.Last) == 0 {
			count["that end nowhere"]++
		}
		if len(n.Last) > 1 && n.Last[0] == 0 {
			count["that end at once, or later"]++
		}
		if slices.ContainsFunc(n.Follow, func(l []int) bool { return len(l) > 3 }) {
			count["with a state ahead of more than three"]++
		}
	}
	enough(t, count, 4)
}

// enough: were there enough of each of so many kinds?
func enough(t *testing.T, count map[string]int, kinds int) {
	t.Helper()
	for what, n := range count {
		if n < 100 {
			t.Errorf("only %d %s", n, what)
		}
	}
	if len(count) != kinds {
		t.Error(count)
	}
}

// P13.1: Right, written out.
func TestRight(t *testing.T) {
	base := func() api.Net {
		return api.Net{Signs: 3, By: [][]int{nil, {0, 2}, {1}, nil}, Follow: [][]int{{1, 3}, {2}, {1, 2, 3}, nil}, Last: []int{0, 2}}
	}
	for i, f := range []func(n *api.Net){
		func(n *api.Net) {},
		func(n *api.Net) { n.Signs = 400 },
		func(n *api.Net) { n.Last = nil },
		func(n *api.Net) { n.Last = []int{0, 1, 2, 3} },
		func(n *api.Net) { n.By[0] = []int{} },
		func(n *api.Net) { n.By[3] = []int{0, 1, 2} },
		func(n *api.Net) { n.Follow = make([][]int, 4) },
		func(n *api.Net) { *n = api.Net{Signs: 1, By: make([][]int, 1), Follow: make([][]int, 1)} },
		func(n *api.Net) {
			*n = api.Net{Signs: 1, By: make([][]int, 301), Follow: make([][]int, 301), Last: []int{300}}
		},
	} {
		n := base()
		if f(&n); !net.Right(n) || !right(n) {
			t.Error(i, n)
		}
	}
	for i, f := range []func(n *api.Net){
		func(n *api.Net) { *n = api.Net{} },
		func(n *api.Net) { n.Signs = 0 },
		func(n *api.Net) { n.Signs = 2 },
		func(n *api.Net) { n.Signs = -3 },
		func(n *api.Net) { n.Signs = 401 },
		func(n *api.Net) { n.Signs = math.MaxInt },
		func(n *api.Net) { n.By = n.By[:3] },
		func(n *api.Net) { n.By = append(n.By, nil) },
		func(n *api.Net) { n.Follow = n.Follow[:3] },
		func(n *api.Net) { n.Follow = append(n.Follow, nil) },
		func(n *api.Net) { n.By, n.Follow, n.Last = nil, nil, nil },
		func(n *api.Net) { *n = api.Net{Signs: 1, By: make([][]int, 302), Follow: make([][]int, 302)} },
		func(n *api.Net) { n.By[0] = []int{0} },
		func(n *api.Net) { n.By[1] = []int{2, 0} },
		func(n *api.Net) { n.By[1] = []int{0, 0} },
		func(n *api.Net) { n.By[1] = []int{0, 3} },
		func(n *api.Net) { n.By[3] = []int{-1} },
		func(n *api.Net) { n.By[3] = []int{math.MaxInt} },
		func(n *api.Net) { n.By[3] = []int{math.MinInt} },
		func(n *api.Net) { n.Follow[0] = []int{0} },
		func(n *api.Net) { n.Follow[1] = []int{0, 1} },
		func(n *api.Net) { n.Follow[2] = []int{1, 3, 2} },
		func(n *api.Net) { n.Follow[2] = []int{1, 1} },
		func(n *api.Net) { n.Follow[3] = []int{1, 4} },
		func(n *api.Net) { n.Follow[3] = []int{-1} },
		func(n *api.Net) { n.Follow[3] = []int{math.MaxInt} },
		func(n *api.Net) { n.Last = []int{2, 0} },
		func(n *api.Net) { n.Last = []int{2, 2} },
		func(n *api.Net) { n.Last = []int{4} },
		func(n *api.Net) { n.Last = []int{-1, 2} },
	} {
		n := base()
		f(&n)
		if net.Right(n) || right(n) || net.Accepts(n, nil) || net.Accepts(n, []int{0, 1}) || len(net.Step(n, []int{0, 1, 2, 3}, 1)) > 0 {
			t.Error(i, n)
		}
	}
}

// P13.1: Step, written out: from states in any order, more than once, that there are not.
func TestStep(t *testing.T) {
	n := made(t, row(star(or(signs(0), signs(1))), signs(1), maybe(signs(2, 0))), 3)
	for i, x := range []struct {
		at   []int
		sign int
		want []int
	}{
		{nil, 0, nil},
		{[]int{0}, 0, []int{1}},
		{[]int{0}, 1, []int{2, 3}},
		{[]int{0}, 2, nil},
		{[]int{3}, 2, []int{4}},
		{[]int{4}, 2, nil},
		{[]int{3, 0, 3, 0}, 0, []int{1, 4}},
		{[]int{99, 3, -1, 2, math.MaxInt, math.MinInt, 5, 64, 448}, 0, []int{1, 4}},
		{[]int{5, -1, 301, -64}, 1, nil},
		{[]int{0}, -1, nil},
		{[]int{0, 1, 2, 3}, 3, nil},
		{[]int{0, 1, 2, 3}, 400, nil},
		{[]int{0, 1, 2, 3}, math.MinInt, nil},
		{[]int{0, 1, 2, 3}, math.MaxInt, nil},
	} {
		if got := net.Step(n, x.at, x.sign); !slices.Equal(got, x.want) {
			t.Error(i, got)
		}
	}
}

// P13.1: Step, Accepts and Right of many nets that are of no form, and of such as are not right.
func TestManyNets(t *testing.T) {
	m := &maker{seed: 130}
	count := map[string]int{}
	all := lists(3, 3)
	for range 4000 {
		n := m.net()
		if m.next(3) == 0 {
			n = m.bent(n)
		}
		good := right(n)
		if net.Right(n) != good {
			t.Fatal(n, good)
		}
		count[fmt.Sprint("nets right: ", good)]++
		at, sign := m.list(6), m.next(5)-1
		var want []int
		if good {
			want = stepped(n, at, sign)
		}
		if got := net.Step(n, at, sign); !slices.Equal(got, want) {
			t.Fatalf("%v from %v by %d: %v, not %v", n, at, sign, got, want)
		}
		if len(want) > 1 {
			count["steps to several"]++
		}
		l := append(all[m.next(len(all))], m.list(1)...)
		if got := net.Accepts(n, l); got != (good && accepted(n, l)) {
			t.Fatalf("%v: %v %v", n, l, got)
		} else if got {
			count["lists accepted"]++
		}
	}
	enough(t, count, 4)
}

// P13.1: Same: all that a net has says something, whether there is nothing or a list that holds nothing says nothing.
func TestSame(t *testing.T) {
	a := api.Net{Signs: 3, By: [][]int{nil, {0, 2}, {1}}, Follow: [][]int{{1}, {2}, nil}, Last: []int{0, 2}}
	b := api.Net{Signs: 3, By: [][]int{{}, {0, 2}, {1}}, Follow: [][]int{{1}, {2}, {}}, Last: []int{0, 2}}
	if !net.Same(a, b) || !net.Same(b, a) || !net.Same(api.Net{}, api.Net{By: [][]int{}, Follow: [][]int{}, Last: []int{}}) {
		t.Error("the same")
	}
	for i, f := range []func(n *api.Net){
		func(n *api.Net) { n.Signs = 4 },
		func(n *api.Net) { n.By = [][]int{nil, {0, 1}, {1}} },
		func(n *api.Net) { n.By = [][]int{nil, {0}, {1}} },
		func(n *api.Net) { n.By = n.By[:2] },
		func(n *api.Net) { n.By = [][]int{nil, {0, 2}, {1}, nil} },
		func(n *api.Net) { n.Follow = [][]int{{1}, {2}, {1}} },
		func(n *api.Net) { n.Follow = [][]int{{1}, nil, {2}} },
		func(n *api.Net) { n.Follow = n.Follow[:2] },
		func(n *api.Net) { n.Last = []int{0} },
		func(n *api.Net) { n.Last = []int{1, 2} },
		func(n *api.Net) { n.Last = nil },
	} {
		n := a
		f(&n)
		if net.Same(a, n) || net.Same(n, a) || !net.Same(n, n) {
			t.Error(i, n)
		}
	}
}

// P13.1: what is handed in stays as it was, its spare room too; what is answered is no part of it.
func TestStays(t *testing.T) {
	roomy := func(l ...int) []int { return append(slices.Grow(slices.Clone(l), 5), 7, 7, 7)[:len(l)] }
	p := api.Pat{Kind: api.PatSet, Signs: roomy(2, 0, 1)}
	n := made(t, star(p), 3)
	for i := range n.By[1] {
		n.By[1][i] = 9
	}
	if !slices.Equal(p.Signs[:6], []int{2, 0, 1, 7, 7, 7}) {
		t.Error(p.Signs[:6])
	}
	n = api.Net{Signs: 3, By: [][]int{roomy(), roomy(0, 1), roomy(1)}, Follow: [][]int{roomy(1, 2), roomy(1, 2), roomy(1)}, Last: roomy(1, 2)}
	before := show(n)
	at, l := roomy(2, 0, 1), roomy(0, 1, 1)
	got := net.Step(n, at, 1)
	net.Accepts(n, l)
	net.Right(n)
	net.Same(n, n)
	_ = append(got, 8, 8)
	got[0] = 8
	if show(n) != before || !slices.Equal(at[:6], []int{2, 0, 1, 7, 7, 7}) || !slices.Equal(l[:6], []int{0, 1, 1, 7, 7, 7}) {
		t.Error(n, at, l)
	}
	for i, x := range slices.Concat(n.By, n.Follow, [][]int{n.Last}) {
		if room := x[:len(x)+3]; !slices.Equal(room[len(x):], []int{7, 7, 7}) {
			t.Error(i, room)
		}
	}
}

// P13.2: nets of many forms accept just the lists that the forms match whole, by the words and by layer 11.
func TestAsTheForm(t *testing.T) {
	m := &maker{seed: 1302}
	count := map[string]int{}
	all := lists(4, 3)
	for range 1500 {
		p := m.form(1 + m.next(5))
		n := made(t, p, 3)
		for _, l := range all {
			want := does(p, l)
			if got := net.Accepts(n, l); got != want || got != reach.Matches(p, l, 0, len(l)) {
				t.Fatalf("%v over %v: %v", p, l, got)
			}
			if want && len(l) > 2 {
				count["lists of more than two accepted"]++
			}
		}
		for _, l := range [][]int{{3}, {-1}, {0, 3}, {math.MinInt}, {1, math.MaxInt, 1}} {
			if net.Accepts(n, l) {
				t.Fatalf("%v over %v", p, l)
			}
		}
		if len(n.By) > 4 && len(n.Last) > 0 {
			count["nets of some states that may end"]++
		}
	}
	enough(t, count, 2)
}

// P13.2: longer lists, of great forms: as layer 11 says.
func TestAsGreatForms(t *testing.T) {
	m := &maker{seed: 21}
	count := map[string]int{}
	for range 300 {
		var kids []api.Pat
		for range 10 {
			kids = append(kids, m.form(2))
		}
		p := star(or(row(kids[:3]...), row(kids[3:5]...), plus(or(kids[5:]...)), row(signs(0), signs(2, 0), star(signs(1)))))
		n := made(t, p, 3)
		for range 8 {
			var l []int
			for range m.next(30) {
				l = append(l, m.next(3))
			}
			want := reach.Matches(p, l, 0, len(l))
			if net.Accepts(n, l) != want {
				t.Fatalf("%v over %v: %v", p, l, !want)
			}
			if len(l) > 8 {
				count[fmt.Sprint("long lists: ", want)]++
			}
		}
	}
	enough(t, count, 2)
}
