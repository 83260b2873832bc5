package verdict_test

import (
	"fmt"
	"math"
	"slices"
	"testing"

	"caesura/api"
	"caesura/rule"
	"caesura/sign"
	"caesura/verdict"
)

// signs, pat, row, or, star, plus: forms, written down.
func signs(l ...int) api.Pat { return api.Pat{Kind: api.PatSet, Signs: l} }

func pat(kind int, kids ...api.Pat) api.Pat { return api.Pat{Kind: kind, Kids: kids} }

func row(kids ...api.Pat) api.Pat { return pat(api.PatJoin, kids...) }

func or(kids ...api.Pat) api.Pat { return pat(api.PatOr, kids...) }

func star(kids ...api.Pat) api.Pat { return pat(api.PatStar, kids...) }

func plus(kids ...api.Pat) api.Pat { return pat(api.PatPlus, kids...) }

// empty matches at every place, and no sign; nowhere matches at none.
var empty, nowhere = pat(api.PatEmpty), or()

// stay, cut: rules that don't cut, and such that do.
func stay(before, after api.Pat) api.Rule { return api.Rule{Before: before, After: after} }

func cut(before, after api.Pat) api.Rule { return api.Rule{Cut: true, Before: before, After: after} }

// book: rules, with numbers from 1 on.
func book(rules ...api.Rule) api.Book {
	var x api.Book
	for i, r := range rules {
		r.Number = 1000 * (i + 1)
		x.Rules = append(x.Rules, r)
	}
	return x
}

// told: a text's book, its signs told, and their characters.
func told(t *testing.T, s string) (api.Book, [][]api.Range) {
	t.Helper()
	x, at, e := rule.Read([]byte(s))
	if e != api.OK {
		t.Fatal(s, at, e)
	}
	atoms, e := sign.Of([]api.Book{x})
	if e != api.OK {
		t.Fatal(s, e)
	}
	return sign.Book(x, atoms), atoms
}

// word: a text's signs.
func word(t *testing.T, atoms [][]api.Range, s string) []int {
	t.Helper()
	var l []int
	for _, c := range s {
		l = append(l, int(c))
	}
	w, e := sign.Word(atoms, l)
	if e != api.OK {
		t.Fatal(s, e)
	}
	return w
}

// does: layer 11's words: does a form match all of a list?
func does(p api.Pat, l []int) bool {
	one := len(p.Kids) == 1
	switch {
	case p.Kind == 1:
		return len(l) == 0
	case p.Kind == 2:
		return len(l) == 1 && slices.Contains(p.Signs, l[0])
	case p.Kind == 3 && len(p.Kids) == 0:
		return len(l) == 0
	case p.Kind == 3:
		return parted(l, 0, p.Kids[0], row(p.Kids[1:]...))
	case p.Kind == 4:
		return slices.ContainsFunc(p.Kids, func(k api.Pat) bool { return does(k, l) })
	case p.Kind == 5 && one:
		// What matches no sign adds nothing, so that each time may be of one sign at least.
		return len(l) == 0 || parted(l, 1, p.Kids[0], p)
	case p.Kind == 6 && one:
		return parted(l, 0, p.Kids[0], star(p.Kids[0]))
	case p.Kind == 7 && one:
		return len(l) == 0 || does(p.Kids[0], l)
	}
	return false
}

// parted: is the list of at least so many signs that one form matches, and of others that another one does?
func parted(l []int, least int, first, then api.Pat) bool {
	for i := least; i <= len(l); i++ {
		if does(first, l[:i]) && does(then, l[i:]) {
			return true
		}
	}
	return false
}

// matches: the chapter's words: does a rule match at a place that there is?
func matches(r api.Rule, l []int, at int) bool {
	before, after := false, false
	for i := range at + 1 {
		before = before || does(r.Before, l[i:at])
	}
	for i := at; i <= len(l); i++ {
		after = after || does(r.After, l[at:i])
	}
	return before && after
}

// check: each call against the chapter's words, at each place, and at such as are none.
func check(t *testing.T, x api.Book, l []int) {
	t.Helper()
	var places []int
	for at := range len(l) + 1 {
		decides := -1
		for i, r := range x.Rules {
			m := matches(r, l, at)
			if verdict.Matches(r, l, at) != m {
				t.Errorf("%+v over %v: rule %d at %d: Matches not %v", x.Rules, l, i, at, m)
			}
			if m && decides < 0 && at > 0 && at < len(l) {
				decides = i
			}
		}
		if got := verdict.Decides(x, l, at); got != decides {
			t.Errorf("%+v over %v at %d: Decides %d, not %d", x.Rules, l, at, got, decides)
		}
		cut := at > 0 && at < len(l) && (decides < 0 || x.Rules[decides].Cut)
		if got := verdict.Cut(x, l, at); got != cut {
			t.Errorf("%+v over %v at %d: Cut %v", x.Rules, l, at, got)
		}
		if cut {
			places = append(places, at)
		}
	}
	if got := verdict.Cuts(x, l); !slices.Equal(got, places) {
		t.Errorf("%+v over %v: Cuts %v, not %v", x.Rules, l, got, places)
	}
	for _, at := range []int{-1, -2, math.MinInt, len(l) + 1, len(l) + 2, math.MaxInt} {
		if verdict.Decides(x, l, at) != -1 || verdict.Cut(x, l, at) {
			t.Errorf("%+v over %v: at %d", x.Rules, l, at)
		}
		for i, r := range x.Rules {
			if verdict.Matches(r, l, at) {
				t.Errorf("%+v over %v: rule %d at %d", x.Rules, l, i, at)
			}
		}
	}
}

// maker makes things of a number.
type maker struct{ seed uint32 }

func (m *maker) next(n int) int {
	m.seed = m.seed*1664525 + 1013904223
	return int((m.seed >> 16) % uint32(n))
}

// list: up to n signs, few of them.
func (m *maker) list(n int) []int {
	var l []int
	for range m.next(n + 1) {
		l = append(l, m.next(3))
	}
	return l
}

// form: one, of all kinds and of others, some of them without just one Kid.
func (m *maker) form(depth int) api.Pat {
	p := api.Pat{Kind: 1 + m.next(7)}
	if m.next(30) == 0 {
		p.Kind = []int{0, -1, 8, math.MinInt, math.MaxInt}[m.next(5)]
	}
	if depth == 0 && m.next(4) > 0 {
		p.Kind = api.PatSet
	}
	if p.Kind == api.PatSet {
		p.Signs = m.list(2)
		p.Set = []api.Range{{Low: m.next(5), High: m.next(5)}}
	}
	if depth == 0 || p.Kind < api.PatJoin {
		return p
	}
	kids := 1 + m.next(3)
	if p.Kind >= api.PatStar && m.next(9) > 0 {
		kids = 1
	}
	for range kids {
		p.Kids = append(p.Kids, m.form(depth-1))
	}
	return p
}

// rule: one, of forms of that depth at most.
func (m *maker) rule(depth int) api.Rule {
	return api.Rule{Cut: m.next(2) > 0, Before: m.form(m.next(depth + 1)), After: m.form(m.next(depth + 1))}
}

// book: one, of up to n rules.
func (m *maker) book(n, depth int) api.Book {
	var rules []api.Rule
	for range m.next(n + 1) {
		rules = append(rules, m.rule(depth))
	}
	x := book(rules...)
	x.Used = []string{"a", "b"}
	return x
}

// deciders: of each place from 0 to how many signs there are the rule that decides.
func deciders(x api.Book, l []int) []int {
	var d []int
	for at := range len(l) + 1 {
		d = append(d, verdict.Decides(x, l, at))
	}
	return d
}

// P12.1: the document's example.
func TestExample(t *testing.T) {
	x, atoms := told(t, "$a=[a]\n3 $a \u00d7 $a")
	l := word(t, atoms, "aab")
	if got := verdict.Cuts(x, l); !slices.Equal(got, []int{2}) {
		t.Error(got)
	}
	if got := deciders(x, l); !slices.Equal(got, []int{-1, 0, -1, -1}) {
		t.Error(got)
	}
	check(t, x, l)
}

// P12.1: Matches, written out: at each place of a list.
func TestMatches(t *testing.T) {
	a, b, all := signs(1), signs(2), signs(1, 2)
	aab := []int{1, 1, 2}
	every := []int{0, 1, 2, 3}
	for i, x := range []struct {
		r    api.Rule
		l    []int
		want []int
	}{
		{stay(a, a), aab, []int{1}},
		{cut(a, b), aab, []int{2}},
		{stay(b, a), aab, nil},
		{stay(a, empty), aab, []int{1, 2}},
		{stay(empty, a), aab, []int{0, 1}},
		{stay(empty, empty), aab, every},
		{stay(row(), row()), aab, every},
		{cut(star(all), star(all)), aab, every},
		{cut(pat(api.PatMaybe, nowhere), star(nowhere)), aab, every},
		{stay(all, all), aab, []int{1, 2}},
		{stay(all, empty), aab, []int{1, 2, 3}},
		{stay(empty, all), aab, []int{0, 1, 2}},
		{stay(row(a, all), empty), aab, []int{2, 3}},
		{stay(empty, row(all, b)), aab, []int{1}},
		{stay(row(a, b), empty), aab, []int{3}},
		{stay(row(b, a), empty), aab, nil},
		{stay(row(a, star(all)), b), aab, []int{2}},
		{stay(a, row(star(all), b)), aab, []int{1, 2}},
		{stay(plus(a), plus(b)), aab, []int{2}},
		{stay(nowhere, empty), aab, nil},
		{stay(empty, nowhere), aab, nil},
		{stay(nowhere, nowhere), aab, nil},
		{cut(signs(), empty), aab, nil},
		{cut(empty, signs()), aab, nil},
		{cut(signs(7), star(all)), aab, nil},
		{cut(star(all), signs(0, 3)), aab, nil},
		{cut(star(all, all), empty), aab, nil},
		{cut(empty, plus()), aab, nil},
		{api.Rule{}, aab, nil},
		{api.Rule{Before: empty}, aab, nil},
		{api.Rule{After: empty}, aab, nil},
		{stay(pat(8, a), empty), aab, nil},
		{stay(empty, pat(-1, a)), aab, nil},
		{stay(empty, empty), nil, []int{0}},
		{stay(star(a), pat(api.PatMaybe, a)), nil, []int{0}},
		{stay(a, empty), nil, nil},
		{stay(empty, a), nil, nil},
		{stay(nowhere, empty), nil, nil},
		{stay(a, empty), []int{1}, []int{1}},
		{stay(empty, a), []int{1}, []int{0}},
		{stay(empty, empty), []int{1}, []int{0, 1}},
		{stay(a, a), []int{1}, nil},
		{stay(signs(math.MinInt), signs(math.MaxInt)), []int{math.MinInt, math.MaxInt}, []int{1}},
		{stay(signs(-1), signs(-2)), []int{-1, -2, -1, -2}, []int{1, 3}},
		{api.Rule{Number: -5, Pos: -5, Before: a, After: a}, aab, []int{1}},
	} {
		var got []int
		for _, at := range []int{math.MinInt, -2, -1, 0, 1, 2, 3, 4, 5, math.MaxInt} {
			if verdict.Matches(x.r, x.l, at) {
				got = append(got, at)
			}
		}
		if !slices.Equal(got, x.want) {
			t.Errorf("%d: %v, not %v", i, got, x.want)
		}
		check(t, book(x.r), x.l)
	}
}

// P12.1: which rule decides, and what is cut, written out.
func TestDecides(t *testing.T) {
	a, b, all := signs(1), signs(2), signs(1, 2)
	l := []int{1, 1, 2, 2, 1}
	for i, x := range []struct {
		x       api.Book
		l       []int
		decides []int // of each place from 1 on
		cuts    []int
	}{
		{api.Book{}, nil, nil, nil},
		{api.Book{}, []int{1}, nil, nil},
		{api.Book{}, []int{1, 1}, []int{-1}, []int{1}},
		{api.Book{}, l, []int{-1, -1, -1, -1}, []int{1, 2, 3, 4}},
		{book(stay(a, a)), l, []int{0, -1, -1, -1}, []int{2, 3, 4}},
		{book(cut(a, a)), l, []int{0, -1, -1, -1}, []int{1, 2, 3, 4}},
		{book(stay(all, all)), l, []int{0, 0, 0, 0}, nil},
		{book(cut(all, all)), l, []int{0, 0, 0, 0}, []int{1, 2, 3, 4}},
		// Several match at one place: the first one decides, whichever cuts.
		{book(stay(a, all), cut(all, all)), l, []int{0, 0, 1, 1}, []int{3, 4}},
		{book(cut(a, all), stay(all, all)), l, []int{0, 0, 1, 1}, []int{1, 2}},
		{book(cut(all, all), stay(a, all)), l, []int{0, 0, 0, 0}, []int{1, 2, 3, 4}},
		{book(stay(a, a), stay(a, a), cut(a, a)), l, []int{0, -1, -1, -1}, []int{2, 3, 4}},
		{book(cut(b, a), stay(a, b), stay(all, a), cut(empty, empty)), l, []int{2, 1, 3, 0}, []int{3, 4}},
		{book(stay(row(a, a), b), stay(b, row(b, a)), stay(row(a, b), empty)), l, []int{-1, 0, 1, -1}, []int{1, 4}},
		{book(stay(row(a, star(b)), a), stay(row(a, plus(b)), empty)), l, []int{0, -1, 1, 0}, []int{2}},
		// What matches everywhere, with no sign or any, and what matches nowhere.
		{book(stay(empty, empty)), l, []int{0, 0, 0, 0}, nil},
		{book(stay(star(all), star(all)), cut(a, a)), l, []int{0, 0, 0, 0}, nil},
		{book(stay(nowhere, empty), cut(empty, nowhere), stay(signs(), signs())), l, []int{-1, -1, -1, -1}, []int{1, 2, 3, 4}},
		{book(stay(nowhere, empty), stay(empty, b)), l, []int{-1, 1, 1, -1}, []int{1, 4}},
		{book(stay(b, empty), cut(empty, b)), l, []int{-1, 1, 0, 0}, []int{1, 2}},
		// The ends are no places at which one decides.
		{book(stay(empty, empty), cut(empty, empty)), nil, nil, nil},
		{book(cut(empty, empty)), []int{}, nil, nil},
		{book(cut(empty, empty)), []int{1}, nil, nil},
		{book(cut(empty, row(a, star(all))), stay(empty, empty)), []int{1, 2}, []int{1}, nil},
		{book(stay(row(star(all), a), empty)), []int{2, 1}, []int{-1}, []int{1}},
		{book(stay(a, b)), []int{1, 2}, []int{0}, nil},
	} {
		for at, want := range append(slices.Concat([]int{-1}, x.decides), -1, -1) {
			if got := verdict.Decides(x.x, x.l, at); got != want {
				t.Errorf("%d at %d: %d, not %d", i, at, got, want)
			}
			if got := verdict.Cut(x.x, x.l, at); got != slices.Contains(x.cuts, at) {
				t.Errorf("%d at %d: %v", i, at, got)
			}
		}
		if got := verdict.Cuts(x.x, x.l); !slices.Equal(got, x.cuts) {
			t.Errorf("%d: %v, not %v", i, got, x.cuts)
		}
		check(t, x.x, x.l)
	}
}

// P12.1: rules as they are written, over texts.
func TestTexts(t *testing.T) {
	for s, texts := range map[string]map[string][]int{
		"": {"": nil, "a": nil, "ab": {1}, "a b": {1, 2}},
		// Sentences: a stop, blanks behind it, and then no small letter.
		"$p=[\\.]\n$b=[\\u{20}]\n$s=[a-z]\n3 $p \u00d7 $b\n4 $p $b* \u00d7 $b\n5 $p $b* \u00d7 $s\n6 $p $b* \u00f7 .\n7 . \u00d7 .": {
			"": nil, "No. Yes.  Maybe. not": {4, 10}, "a.b": nil, "a.B": {2}, "..": {1}, ". .": {2}, ".": nil, "A B": nil,
		},
		// What stands in their number's order decides, not in the text's.
		"4 \u00d7\n3 [a] \u00f7 [a]": {"aab": {1}, "baa": {2}, "b": nil},
		// Pairs are counted from the beginning of a row.
		"$r=[r]\n$n=[^r]\n3 ($n ($r $r)* $r) \u00d7 $r\n4 $n $r $r \u00f7 $r\n5 . \u00d7 .": {"xrrrrr": {3}, "xrrr": {3}, "rrrr": nil},
	} {
		x, atoms := told(t, s)
		for text, want := range texts {
			l := word(t, atoms, text)
			if got := verdict.Cuts(x, l); !slices.Equal(got, want) {
				t.Errorf("%q over %q: %v, not %v", s, text, got, want)
			}
		}
	}
}

// P12.1: each call against the chapter's words, for many made books and lists.
func TestMade(t *testing.T) {
	m := &maker{12}
	none, later, cuts, stays := 0, 0, 0, 0
	for range 4000 {
		x, l := m.book(4, 3), m.list(6)
		check(t, x, l)
		for _, i := range deciders(x, l) {
			switch {
			case i < 0:
				none++
				continue
			case i > 0:
				later++
			}
			if x.Rules[i].Cut {
				cuts++
			} else {
				stays++
			}
		}
	}
	if none < 1000 || later < 1000 || cuts < 1000 || stays < 1000 {
		t.Error(none, later, cuts, stays)
	}
}

// P12.1: a book that is as large as it may be, over long lists, and one whose numbers don't rise.
func TestLarge(t *testing.T) {
	all, a, b := signs(0, 1, 2), signs(1), signs(2)
	var rules []api.Rule
	for range 29 {
		rules = append(rules, cut(row(star(all), b, star(a), b), row(star(all), b, b, b)))
	}
	rules = append(rules, stay(star(all), row(a, star(all))))
	x := book(rules...)
	l := slices.Repeat([]int{0, 1, 2}, 20000)
	var want []int
	for at := 1; at < len(l); at++ {
		if l[at] != 1 {
			want = append(want, at)
		}
	}
	if got := verdict.Cuts(x, l); !slices.Equal(got, want) {
		t.Error(len(got), len(want))
	}
	for at, want := range map[int]int{1: 29, 2: -1, 3: -1, 30001: 29, 59998: 29, 59999: -1, 60000: -1} {
		if got := verdict.Decides(x, l, at); got != want {
			t.Error(at, got)
		}
	}
	deep := a
	for i := range 200 {
		deep = pat(api.PatJoin+i%5, deep)
	}
	z := book(cut(b, b), stay(deep, b), stay(b, deep))
	if got := deciders(z, []int{1, 2, 2, 1, 1}); !slices.Equal(got, []int{-1, 1, 0, 2, -1, -1}) {
		t.Error(got)
	}
	if got := verdict.Cuts(z, []int{1, 2, 2, 1, 1}); !slices.Equal(got, []int{2, 4}) {
		t.Error(got)
	}
	// Rules that stand ahead in the list are ahead, whatever their numbers are.
	y := book(stay(a, a), cut(all, all))
	y.Rules[0].Number, y.Rules[1].Number = 9000, -1
	if got := deciders(y, []int{1, 1, 2}); !slices.Equal(got, []int{-1, 0, 1, -1}) {
		t.Error(got)
	}
}

// same: is it the same book, its places in the text too?
func same(a, b api.Book) bool { return fmt.Sprintf("%+v", a) == fmt.Sprintf("%+v", b) }

// P12.1: Without, of each rule that there is, and of such as there isn't.
func TestWithout(t *testing.T) {
	x, _ := told(t, "$a=[a]\n$b=[b]\n3 $a \u00d7\n#allow dead 3\n4 $b \u00f7 $a\n5 \u00d7 $b\n")
	for i, want := range [][]int{{4000, 5000}, {3000, 5000}, {3000, 4000}} {
		y := verdict.Without(x, i)
		var numbers []int
		for _, r := range y.Rules {
			numbers = append(numbers, r.Number)
			if j := rule.Find(x, r.Number); fmt.Sprintf("%+v", r) != fmt.Sprintf("%+v", x.Rules[j]) {
				t.Error(i, r)
			}
		}
		if !slices.Equal(numbers, want) {
			t.Error(i, numbers)
		}
		// All else stays, the names that the rule alone used too.
		y.Rules = x.Rules
		if !same(x, y) {
			t.Errorf("%d: %+v", i, y)
		}
	}
	for _, i := range []int{-1, -2, math.MinInt, 3, 4, math.MaxInt} {
		if y := verdict.Without(x, i); !same(x, y) {
			t.Errorf("%d: %+v", i, y)
		}
	}
	one := book(stay(signs(1), empty))
	if y := verdict.Without(one, 0); len(y.Rules) != 0 {
		t.Error(y)
	}
	for _, i := range []int{-1, 0, 1} {
		if y := verdict.Without(api.Book{Used: []string{"a"}}, i); !same(y, api.Book{Used: []string{"a"}}) {
			t.Error(i, y)
		}
	}
	if y := verdict.Without(verdict.Without(verdict.Without(x, 2), 1), 0); len(y.Rules) != 0 || len(y.Vars) != 2 {
		t.Error(y)
	}
}

// P12.1: what was handed in stays as it was, its spare room too.
func TestStays(t *testing.T) {
	m := &maker{13}
	for range 300 {
		x, l := m.book(5, 3), slices.Grow(m.list(6), 4)
		x.Rules = slices.Grow(x.Rules, 3)
		room, rules := l[:cap(l)], x.Rules[:cap(x.Rules)]
		for i := len(l); i < len(room); i++ {
			room[i] = 2
		}
		was, list, wasRules := fmt.Sprintf("%+v", x), slices.Clone(room), fmt.Sprintf("%+v", rules)
		cuts := verdict.Cuts(x, l)
		for at := range len(l) + 1 {
			verdict.Decides(x, l, at)
			verdict.Cut(x, l, at)
		}
		for i := range len(x.Rules) + 1 {
			y := verdict.Without(x, i)
			if i < len(x.Rules) {
				y.Rules = append(y.Rules, api.Rule{Number: -7})
				y.Rules[0].Number = -7
			}
		}
		if fmt.Sprintf("%+v", x) != was || fmt.Sprintf("%+v", rules) != wasRules || !slices.Equal(room, list) {
			t.Fatal(was, x, list, room)
		}
		answered := slices.Clone(cuts)
		_ = append(cuts, -9)
		for i := range room {
			room[i] = -9
		}
		if !slices.Equal(cuts, answered) {
			t.Fatal(cuts, answered)
		}
	}
}

// P12.2: at each place just one rule decides, or none.
func TestOneDecides(t *testing.T) {
	m := &maker{14}
	several := 0
	for range 3000 {
		x, l := m.book(6, 3), m.list(8)
		cuts := verdict.Cuts(x, l)
		for at := 1; at < len(l); at++ {
			var match []int
			for i, r := range x.Rules {
				if verdict.Matches(r, l, at) {
					match = append(match, i)
				}
			}
			if len(match) > 1 {
				several++
			}
			d := verdict.Decides(x, l, at)
			if len(match) == 0 && d != -1 || len(match) > 0 && d != match[0] {
				t.Errorf("%+v over %v at %d: %d of %v", x.Rules, l, at, d, match)
			}
			if want := d < 0 || x.Rules[d].Cut; verdict.Cut(x, l, at) != want || slices.Contains(cuts, at) != want {
				t.Errorf("%+v over %v at %d: not %v", x.Rules, l, at, want)
			}
		}
		if len(l) < 2 && len(cuts) > 0 || len(cuts) > 0 && (cuts[0] < 1 || cuts[len(cuts)-1] >= len(l)) {
			t.Errorf("%+v over %v: %v", x.Rules, l, cuts)
		}
	}
	if several < 1000 {
		t.Error(several)
	}
}

// P12.2: without a rule all places at which it doesn't decide are as they were; at the others one behind it decides, or none.
func TestWithoutOne(t *testing.T) {
	m := &maker{15}
	kept, moved := 0, 0
	for range 2000 {
		x, l := m.book(6, 3), m.list(8)
		was := deciders(x, l)
		for i := range x.Rules {
			y := verdict.Without(x, i)
			for at, d := range deciders(y, l) {
				number := func(x api.Book, i int) int {
					if i < 0 {
						return -1
					}
					return x.Rules[i].Number
				}
				if was[at] == i {
					moved++
					if d >= 0 && d < i {
						t.Errorf("%+v over %v at %d without %d: %d", x.Rules, l, at, i, d)
					}
					continue
				}
				kept++
				if number(y, d) != number(x, was[at]) || verdict.Cut(y, l, at) != verdict.Cut(x, l, at) {
					t.Errorf("%+v over %v at %d without %d: %d, was %d", x.Rules, l, at, i, d, was[at])
				}
			}
			for at := range len(l) + 1 {
				if was[at] != i && slices.Contains(verdict.Cuts(x, l), at) != slices.Contains(verdict.Cuts(y, l), at) {
					t.Errorf("%+v over %v at %d without %d: Cuts", x.Rules, l, at, i)
				}
			}
		}
	}
	if kept < 2000 || moved < 2000 {
		t.Error(kept, moved)
	}
}
