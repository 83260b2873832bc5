package rule_test

import (
	"fmt"
	"math"
	"slices"
	"strings"
	"testing"

	"caesura/api"
	"caesura/expr"
	"caesura/rule"
	"caesura/vars"
)

// node, name, set, wide: nodes, written down; wide has so many.
func node(kind int, kids ...api.Node) api.Node { return api.Node{Kind: kind, Kids: kids} }

func name(s string) api.Node { return api.Node{Kind: api.NodeName, Name: s} }

func set(low int, kids ...api.Node) api.Node {
	return api.Node{Kind: api.NodeSet, Low: low, Kids: kids}
}

func one(c int) api.Node { return api.Node{Kind: api.NodeRange, Low: c, High: c} }

func wide(many int) api.Node {
	return node(api.NodeOr, slices.Repeat([]api.Node{anyOne}, many-1)...)
}

// odd: a set of so many ranges.
func odd(many int) api.Node {
	n := set(0)
	for i := range many {
		n.Kids = append(n.Kids, one(2*i+1))
	}
	return n
}

var none, anyOne, unknown, wrong = node(api.NodeEmpty), node(api.NodeAny), name("nobody"), node(13)

// given, ruled, allowed: items, written down.
func given(s string, n api.Node, pos int) api.Item {
	return api.Item{Kind: api.ItemName, Name: s, Before: n, Pos: pos}
}

func ruled(number int, before, after api.Node, pos int) api.Item {
	return api.Item{Kind: api.ItemRule, Number: number, Before: before, After: after, Pos: pos}
}

func allowed(s string, number, pos int) api.Item {
	return api.Item{Kind: api.ItemAllow, Name: s, Number: number, Pos: pos}
}

// rules: so many, numbered by this one and the next ones.
func rules(first, many int) []api.Item {
	var l []api.Item
	for i := range many {
		l = append(l, ruled(first+i, none, anyOne, 10*i))
	}
	return l
}

// names: so many, n0 and the next ones.
func names(many int) []api.Item {
	var l []api.Item
	for i := range many {
		l = append(l, given(fmt.Sprint("n", i), anyOne, 10*i))
	}
	return l
}

// showNode, showPat, showItem, showBook: all that is in them, as texts.
func showNode(n api.Node) string {
	var s strings.Builder
	for _, k := range n.Kids {
		s.WriteString(showNode(k))
	}
	return fmt.Sprintf("<%d %q %d %d %s>", n.Kind, n.Name, n.Low, n.High, s.String())
}

func showPat(p api.Pat) string {
	var s strings.Builder
	for _, k := range p.Kids {
		s.WriteString(showPat(k))
	}
	return fmt.Sprintf("{%d %v %v %s}", p.Kind, p.Set, p.Signs, s.String())
}

func showItem(x api.Item) string {
	return fmt.Sprintf("%d %q %d %v %s %s at %d", x.Kind, x.Name, x.Number, x.Cut, showNode(x.Before), showNode(x.After), x.Pos)
}

func showItems(l []api.Item) string {
	var s strings.Builder
	for _, x := range l {
		s.WriteString(showItem(x) + "\n")
	}
	return s.String()
}

func showBook(x api.Book) string {
	var s strings.Builder
	for _, v := range x.Vars {
		fmt.Fprintf(&s, "%q %s %v at %d\n", v.Name, showPat(v.Pat), v.Set, v.Pos)
	}
	for _, r := range x.Rules {
		fmt.Fprintf(&s, "%d %v %s %s at %d\n", r.Number, r.Cut, showPat(r.Before), showPat(r.After), r.Pos)
	}
	return s.String() + showItems(x.Allows) + fmt.Sprintf("%q", x.Used)
}

// namesIn: the document's words for the names that stand in a form, by its nodes one after the other.
func namesIn(n api.Node) []string {
	var l []string
	todo := []api.Node{n}
	for len(todo) > 0 {
		n, todo = todo[0], todo[1:]
		if n.Kind == 2 && !slices.Contains(l, n.Name) {
			l = append(l, n.Name)
		}
		todo = append(slices.Clone(n.Kids), todo...)
	}
	return l
}

// usedIn: the document's words for the names that are used.
func usedIn(l []api.Item, all []api.Var) []string {
	var used []string
	for _, v := range all {
		if slices.ContainsFunc(l, func(x api.Item) bool {
			return x.Kind == 1 && slices.Contains(namesIn(x.Before), v.Name) ||
				x.Kind == 2 && (slices.Contains(namesIn(x.Before), v.Name) || slices.Contains(namesIn(x.After), v.Name))
		}) {
			used = append(used, v.Name)
		}
	}
	return used
}

// bookOf: the document's words for the book of items; its rules are put in order at last.
func bookOf(l []api.Item) (api.Book, int, api.Errno) {
	var b api.Book
	for _, x := range l {
		var e api.Errno
		switch x.Kind {
		case 1:
			var more []api.Var
			if more, e = vars.Give(b.Vars, x); e == api.OK {
				b.Vars = more
			}
		case 2:
			e = ruleOf(&b, x)
		case 3:
			b.Allows = append(b.Allows, x)
		default:
			e = api.ErrArg
		}
		if e != api.OK {
			return api.Book{}, x.Pos, e
		}
	}
	slices.SortFunc(b.Rules, func(a, b api.Rule) int {
		if a.Number < b.Number {
			return -1
		}
		return 1
	})
	b.Used = usedIn(l, b.Vars)
	return b, -1, api.OK
}

func ruleOf(b *api.Book, x api.Item) api.Errno {
	for _, r := range b.Rules {
		if r.Number == x.Number {
			return api.ErrTwice
		}
	}
	if len(b.Rules) >= 30 {
		return api.ErrMany
	}
	p, e := vars.Expand(x.Before, b.Vars)
	q, f := vars.Expand(x.After, b.Vars)
	if e != api.OK || f != api.OK {
		return firstError(e, f)
	}
	b.Rules = append(b.Rules, api.Rule{Number: x.Number, Cut: x.Cut, Before: p, After: q, Pos: x.Pos})
	return api.OK
}

func firstError(e, f api.Errno) api.Errno {
	if e != api.OK {
		return e
	}
	return f
}

// check: Build of items against the words of the document; what it answers.
func check(t *testing.T, l []api.Item) (api.Book, int, api.Errno) {
	t.Helper()
	want, wantAt, wantE := bookOf(l)
	x, at, e := rule.Build(l)
	if at != wantAt || e != wantE || showBook(x) != showBook(want) {
		t.Fatalf("%.600s:\n%s\n%d %d, not\n%s\n%d %d", showItems(l), showBook(x), at, e, showBook(want), wantAt, wantE)
	}
	if !rule.Same(x, want) {
		t.Fatalf("not the same: %s", showBook(x))
	}
	return x, at, e
}

// refuse: items of which the last but so many is the first one that is wrong, with this error.
func refuse(t *testing.T, l []api.Item, behind int, want api.Errno) {
	t.Helper()
	wrongAt := l[len(l)-1-behind].Pos
	if x, at, e := check(t, l); at != wrongAt || e != want || showBook(x) != showBook(api.Book{}) {
		t.Errorf("%.600s:\n%s\n%d %d, not %d %d", showItems(l), showBook(x), at, e, wrongAt, want)
	}
}

// take: items that make a book, which is right.
func take(t *testing.T, l []api.Item) api.Book {
	t.Helper()
	x, at, e := check(t, l)
	if at != -1 || e != api.OK || !rule.Right(x) {
		t.Fatalf("%.600s: %d %d", showItems(l), at, e)
	}
	return x
}

// items: a text's.
func items(t *testing.T, s string) []api.Item {
	t.Helper()
	l, at, e := expr.Of([]byte(s))
	if e != api.OK {
		t.Fatalf("%q: %d %d", s, at, e)
	}
	return l
}

// read: a text's book, as Read and Build answer it.
func read(t *testing.T, s string) api.Book {
	t.Helper()
	x, at, e := rule.Read([]byte(s))
	if at != -1 || e != api.OK || !rule.Right(x) {
		t.Fatalf("%q: %d %d", s, at, e)
	}
	if y := take(t, items(t, s)); showBook(x) != showBook(y) || !rule.Same(x, y) {
		t.Fatalf("%q: %s, not %s", s, showBook(x), showBook(y))
	}
	return x
}

// P9.1: no items, or such as give nothing.
func TestNoItems(t *testing.T) {
	for _, l := range [][]api.Item{nil, {}} {
		if x := take(t, l); len(x.Vars)+len(x.Rules)+len(x.Allows)+len(x.Used) != 0 {
			t.Error(showBook(x))
		}
	}
	for _, s := range []string{"", "\n", "\n\n \t\n", "# nothing", "#allowed\n # \n"} {
		if x := read(t, s); !rule.Same(x, api.Book{}) {
			t.Errorf("%q: %s", s, showBook(x))
		}
	}
	if x, at, e := rule.Read(nil); at != -1 || e != api.OK || !rule.Same(x, api.Book{}) {
		t.Error(showBook(x), at, e)
	}
}

// P9.1: a book, field by field.
func TestBook(t *testing.T) {
	x := read(t, "$v=[ae]\n#allow idle\n$w=$v+\n10 $w \u00d7 .\n$x=.\n9.25 \u00f7 $v|()\n#allow dead 9.25\n$y=$x\n0 [^$x]? \u00d7")
	vowels := "{2 [{97 97} {101 101}] [] }"
	for i, want := range []string{
		"\"v\" " + vowels + " true at 0",
		"\"w\" {6 [] [] " + vowels + "} false at 20",
		"\"x\" {2 [{0 1114111}] [] } true at 38",
		"\"y\" {2 [{0 1114111}] [] } true at 74",
		"0 false {7 [] [] {2 [] [] }} {1 [] [] } at 80",
		"9250 true {1 [] [] } {4 [] [] " + vowels + "{1 [] [] }} at 43",
		"10000 false {6 [] [] " + vowels + "} {2 [{0 1114111}] [] } at 27",
		"3 \"idle\" -1 false <0 \"\" 0 0 > <0 \"\" 0 0 > at 8",
		"3 \"dead\" 9250 false <0 \"\" 0 0 > <0 \"\" 0 0 > at 57",
		"[\"v\" \"w\" \"x\"]",
	} {
		if got := strings.Split(showBook(x), "\n")[i]; got != want {
			t.Errorf("%d: %s, not %s", i, got, want)
		}
	}
	if rule.Find(x, 0) != 0 || rule.Find(x, 9250) != 1 || rule.Find(x, 10000) != 2 || rule.Find(x, 10) != -1 {
		t.Error("found")
	}
	example := read(t, "4 . \u00d7\n3 \u00d7 .")
	if example.Rules[0].Number != 3000 || example.Rules[0].Before.Kind != api.PatEmpty || example.Rules[0].Pos != 7 || example.Rules[1].Number != 4000 {
		t.Error(showBook(example))
	}
}

// P9.1: an item of a Kind that isn't one of the three, whatever else is in it, and wherever it stands.
func TestOtherKinds(t *testing.T) {
	l := append(names(30), append(rules(0, 30), allowed("dead", -1, 5))...)
	for _, kind := range []int{0, 4, 5, -1, -2, 13, math.MinInt, math.MaxInt} {
		for _, pos := range []int{0, 1, 77, -1, -9, math.MinInt, math.MaxInt} {
			x := api.Item{Kind: kind, Pos: pos}
			refuse(t, []api.Item{x}, 0, api.ErrArg)
			y := api.Item{Kind: kind, Name: "n1", Number: 3, Before: unknown, After: wrong, Pos: pos}
			refuse(t, []api.Item{y}, 0, api.ErrArg)
			refuse(t, append(slices.Clone(l), y), 0, api.ErrArg)
			// The first one is told, whatever is wrong behind it.
			refuse(t, append(slices.Clone(l), x, ruled(3, unknown, wrong, 4)), 1, api.ErrArg)
			refuse(t, []api.Item{y, given("a", wrong, 4)}, 1, api.ErrArg)
			refuse(t, []api.Item{given("a", wrong, 4), y}, 1, api.ErrKind)
		}
	}
}

// P9.1: what may be wrong in a name, and which of it is told first.
func TestWrongNames(t *testing.T) {
	few := append(names(3), rules(0, 2)...)
	full := append(names(30), rules(0, 2)...)
	for _, x := range []struct {
		ahead []api.Item
		name  string
		n     api.Node
		want  api.Errno
	}{
		{few, "n1", anyOne, api.ErrTwice},
		{few, "n1", unknown, api.ErrTwice},
		{few, "new", unknown, api.ErrName},
		{few, "new", name("new"), api.ErrName},
		{few, "new", set(0, unknown), api.ErrName},
		{few, "new", wrong, api.ErrKind},
		{few, "new", one('a'), api.ErrKind},
		{few, "new", api.Node{}, api.ErrKind},
		{few, "new", set(0, none), api.ErrKind},
		{few, "new", wide(301), api.ErrMany},
		{few, "new", odd(401), api.ErrMany},
		{few, "new", node(api.NodeJoin, wide(301), unknown), api.ErrName},
		{few, "new", node(api.NodeJoin, wrong, unknown), api.ErrKind},
		{full, "n29", anyOne, api.ErrTwice},
		{full, "n29", wrong, api.ErrTwice},
		{full, "new", anyOne, api.ErrMany},
		{full, "new", unknown, api.ErrMany},
		{full, "new", wrong, api.ErrMany},
	} {
		for _, pos := range []int{0, 900, -4} {
			y := given(x.name, x.n, pos)
			refuse(t, append(slices.Clone(x.ahead), y), 0, x.want)
			refuse(t, append(slices.Clone(x.ahead), y, api.Item{Kind: 4, Pos: 7}), 1, x.want)
			refuse(t, append(slices.Clone(x.ahead), y, ruled(1, wrong, wrong, 7)), 1, x.want)
		}
	}
	refuse(t, []api.Item{given("f", wide(2), 0), given("s", set(1, name("f")), 5)}, 0, api.ErrKind)
	take(t, few)
	take(t, full)
	take(t, append(slices.Clone(few), given("new", wide(300), 3), given("same", name("new"), 4), given("most", odd(400), 5)))
	// What isn't asked of a name says nothing.
	plain := take(t, []api.Item{given("", anyOne, 3)})
	odd := api.Item{Kind: 1, Name: "", Number: -8, Cut: true, Before: anyOne, After: wrong, Pos: 3}
	if x := take(t, []api.Item{odd}); !rule.Same(x, plain) || showBook(x) != showBook(plain) {
		t.Error(showBook(x))
	}
}

// P9.1: what may be wrong in a rule, and which of it is told first.
func TestWrongRules(t *testing.T) {
	few := append(rules(0, 3), names(2)...)
	full := append(rules(0, 30), names(2)...)
	type errors struct {
		ahead         []api.Item
		number        int
		before, after api.Node
		want          api.Errno
	}
	l := []errors{
		{few, 1, anyOne, anyOne, api.ErrTwice},
		{few, 1, unknown, wrong, api.ErrTwice},
		{few, 0, wrong, unknown, api.ErrTwice},
		{few, 2, wide(301), wide(301), api.ErrTwice},
		{full, 0, anyOne, anyOne, api.ErrTwice},
		{full, 29, unknown, wrong, api.ErrTwice},
		{full, 30, anyOne, anyOne, api.ErrMany},
		{full, 999999, unknown, anyOne, api.ErrMany},
		{full, -1, wrong, unknown, api.ErrMany},
		{full, 30, anyOne, wrong, api.ErrMany},
	}
	bad := []struct {
		n    api.Node
		want api.Errno
	}{
		{unknown, api.ErrName}, {set(0, unknown), api.ErrName}, {node(api.NodeStar, unknown), api.ErrName},
		{wrong, api.ErrKind}, {api.Node{}, api.ErrKind}, {one('a'), api.ErrKind}, {set(1, none), api.ErrKind},
		{wide(301), api.ErrMany}, {odd(401), api.ErrMany}, {node(api.NodeJoin, wide(150), wide(150)), api.ErrMany},
	}
	for _, x := range bad {
		for _, good := range []api.Node{none, anyOne, name("n1"), wide(300), odd(400)} {
			l = append(l, errors{few, 3, x.n, good, x.want}, errors{few, 3, good, x.n, x.want}, errors{few, 2, good, x.n, api.ErrTwice})
		}
		// Before is told first, whatever is wrong in After.
		for _, y := range bad {
			l = append(l, errors{few, 3, x.n, y.n, x.want}, errors{nil, 3, x.n, y.n, x.want}, errors{full, 3, x.n, y.n, api.ErrTwice}, errors{full, 33, x.n, y.n, api.ErrMany})
		}
	}
	for i, x := range l {
		y := ruled(x.number, x.before, x.after, i)
		refuse(t, append(slices.Clone(x.ahead), y), 0, x.want)
		refuse(t, append(slices.Clone(x.ahead), y, api.Item{Kind: 4, Pos: 7}), 1, x.want)
		refuse(t, append(slices.Clone(x.ahead), y, given("n0", wrong, 7)), 1, x.want)
	}
	take(t, few)
	take(t, full)
	// What isn't asked of a rule says nothing.
	odd := ruled(5, none, anyOne, 3)
	odd.Name = "n1"
	if x, y := take(t, []api.Item{odd}), take(t, []api.Item{ruled(5, none, anyOne, 3)}); !rule.Same(x, y) || showBook(x) != showBook(y) {
		t.Error(showBook(x))
	}
}

// P9.1: a number that is there already, written alike or otherwise, with other forms or the same.
func TestNumberTwice(t *testing.T) {
	for s, at := range map[string]int{
		"3 \u00d7\n3 \u00d7":                                 5,
		"3 \u00d7\n3.0 \u00f7":                               5,
		"3 . \u00d7\n4 \u00d7\n2 \u00d7\n3.000 [$q]+ \u00f7": 17,
		"0 \u00d7\n0.000 \u00d7":                             5,
		"999.999 \u00d7\n999.999 \u00d7":                     11,
		"1 \u00d7\n2 \u00d7\n3 \u00d7\n1 \u00d7":             15,
		"3 \u00d7\n2 \u00d7\n1 \u00d7\n1 \u00d7":             15,
		"9.5 \u00d7\n9.50 \u00d7\n9.5 \u00d7":                7,
	} {
		if x, got, e := rule.Read([]byte(s)); got != at || e != api.ErrTwice || showBook(x) != showBook(api.Book{}) {
			t.Errorf("%q: %d %d", s, got, e)
		}
		if _, got, e := check(t, items(t, s)); got != at || e != api.ErrTwice {
			t.Errorf("%q: %d %d", s, got, e)
		}
	}
	read(t, "3 \u00d7\n3.1 \u00d7\n3.01 \u00d7\n3.001 \u00d7\n30 \u00d7\n300 \u00d7\n0.3 \u00d7\n0.03 \u00d7\n0.003 \u00d7")
}

// P9.1: 30 rules and one more, 30 names and one more, in Build and in Read.
func TestMost(t *testing.T) {
	var ruleText, nameText strings.Builder
	for i := range 31 {
		fmt.Fprintf(&ruleText, "%d \u00d7\n", 100+i)
		fmt.Fprintf(&nameText, "$n%02d=.\n", i)
	}
	for _, x := range []struct {
		text string
		one  int
	}{{ruleText.String(), 7}, {nameText.String(), 7}} {
		most := read(t, x.text[:30*x.one])
		if len(most.Rules)+len(most.Vars) != 30 {
			t.Error(showBook(most))
		}
		if y, at, e := rule.Read([]byte(x.text)); at != 30*x.one || e != api.ErrMany || len(y.Rules)+len(y.Vars) != 0 {
			t.Error(at, e, showBook(y))
		}
	}
	both := read(t, nameText.String()[:210]+ruleText.String()[:210]+"#allow dead\n#allow dead")
	if len(both.Vars) != 30 || len(both.Rules) != 30 || len(both.Allows) != 2 || len(both.Used) != 0 {
		t.Error(showBook(both))
	}
	for _, many := range []int{0, 1, 29, 30} {
		if x := take(t, append(rules(500, many), names(many)...)); len(x.Rules) != many || len(x.Vars) != many {
			t.Error(many, showBook(x))
		}
	}
	for _, many := range []int{31, 32, 100} {
		refuse(t, rules(0, many), many-31, api.ErrMany)
		refuse(t, names(many), many-31, api.ErrMany)
	}
	// Of what is allowed there may be any number.
	if x := take(t, slices.Repeat([]api.Item{allowed("idle", -1, 4)}, 5000)); len(x.Allows) != 5000 {
		t.Error(len(x.Allows))
	}
}

// P9.1: numbers of any size stand in their order; which of them are right.
func TestNumbers(t *testing.T) {
	l := []int{math.MaxInt, 1000000, 999999, 3, 0, -1, -1000, math.MinInt, 999998, 1}
	var whole []api.Item
	for i, number := range l {
		whole = append(whole, ruled(number, none, none, i))
		x, at, e := check(t, []api.Item{ruled(number, none, none, i)})
		right := number >= 0 && number <= 999999
		if at != -1 || e != api.OK || rule.Right(x) != right || rule.Find(x, number) != 0 {
			t.Error(number, at, e, rule.Right(x))
		}
		refuse(t, []api.Item{ruled(number, none, none, i), ruled(number, anyOne, none, i+5)}, 0, api.ErrTwice)
	}
	x, _, _ := check(t, whole)
	slices.Sort(l)
	for i, number := range l {
		if x.Rules[i].Number != number || rule.Find(x, number) != i {
			t.Error(i, number, x.Rules[i].Number)
		}
	}
	if rule.Right(x) {
		t.Error("right")
	}
	edge := read(t, "999.999 \u00f7\n0 \u00f7\n999.998 \u00d7\n0.001 \u00d7")
	for i, number := range []int{0, 1, 999998, 999999} {
		if edge.Rules[i].Number != number || rule.Find(edge, number) != i {
			t.Error(i, number, showBook(edge))
		}
	}
	for _, number := range []int{-1, 2, 999997, 1000000, 500000, math.MinInt, math.MaxInt} {
		if rule.Find(edge, number) != -1 {
			t.Error(number)
		}
	}
}

// pats: a form of so many nodes.
func pats(many int) api.Pat {
	return api.Pat{Kind: api.PatJoin, Kids: slices.Repeat([]api.Pat{{Kind: api.PatEmpty}}, many-1)}
}

// P9.1: which rules are right.
func TestRight(t *testing.T) {
	numbered := func(l ...int) api.Book {
		var x api.Book
		for _, number := range l {
			x.Rules = append(x.Rules, api.Rule{Number: number})
		}
		return x
	}
	for _, l := range [][]int{{}, {0}, {999999}, {0, 999999}, {0, 1, 2}, {5, 70, 71, 900}} {
		if !rule.Right(numbered(l...)) {
			t.Error(l)
		}
	}
	for _, l := range [][]int{{-1}, {1000000}, {math.MinInt}, {math.MaxInt}, {-1, 0}, {0, 0}, {7, 7}, {999999, 999999}, {1, 0}, {0, 1, 1}, {0, 2, 1}, {2, 0, 3}, {0, 1000000}, {0, 5, 3, 9}, {-2, -1}} {
		if rule.Right(numbered(l...)) {
			t.Error(l)
		}
	}
	for many, want := range map[int]bool{1: true, 29: true, 30: true, 31: false, 32: false, 200: false} {
		var l []int
		for i := range many {
			l = append(l, 2*i)
		}
		if rule.Right(numbered(l...)) != want {
			t.Error(many)
		}
	}
	for many, want := range map[int]bool{1: true, 2: true, 299: true, 300: true, 301: false, 302: false, 99999: false, 100000: false, 200000: false} {
		for i := range 3 {
			before, after := numbered(1, 2, 3), numbered(1, 2, 3)
			before.Rules[i].Before = pats(many)
			after.Rules[i].After = pats(many)
			if rule.Right(before) != want || rule.Right(after) != want {
				t.Error(many, i)
			}
		}
	}
	// Both forms together may have more; what a rule's forms are, and all else of a book, isn't asked.
	both := numbered(4)
	both.Rules[0].Before, both.Rules[0].After = pats(300), pats(300)
	both.Rules[0].Pos, both.Rules[0].Cut = -3, true
	both.Vars = make([]api.Var, 31)
	both.Allows = make([]api.Item, 31)
	both.Used = []string{"b", "a", "a"}
	if !rule.Right(both) {
		t.Error("both")
	}
}

// P9.1: forms of 300 nodes and of 301, by names too.
func TestManyNodes(t *testing.T) {
	l := []api.Item{given("a", wide(100), 1), given("b", wide(300), 2)}
	a, b := name("a"), name("b")
	for i, n := range []api.Node{wide(300), b, node(api.NodeJoin, a, a, wide(99)), node(api.NodeJoin, append(slices.Repeat([]api.Node{none}, 199), a)...)} {
		for _, x := range []api.Item{ruled(4, n, none, 3), ruled(4, none, n, 3), ruled(4, n, n, 3)} {
			if y := take(t, append(slices.Clone(l), x)); vars.Size(y.Rules[0].Before)+vars.Size(y.Rules[0].After) < 301 {
				t.Error(i, showBook(y))
			}
		}
		take(t, append(slices.Clone(l), given("c", n, 3)))
	}
	for _, n := range []api.Node{wide(301), node(api.NodeStar, b), node(api.NodeJoin, a, a, wide(100)), node(api.NodeJoin, append(slices.Repeat([]api.Node{none}, 200), a)...), wide(200000)} {
		for _, x := range []api.Item{ruled(4, n, none, 3), ruled(4, none, n, 3), ruled(4, n, n, 3), given("c", n, 3)} {
			refuse(t, append(slices.Clone(l), x), 0, api.ErrMany)
		}
	}
}

// P9.1: names between rules, behind the rule that uses them, and twice; allows between all.
func TestNamesBetweenRules(t *testing.T) {
	x := read(t, "#allow dead 5\n$a=[a]\n5 $a \u00d7\n#allow idle\n$b=[$a b]\n4 $b \u00f7 $a\n#allow dead 5\n#allow zz 9.5")
	if showPat(x.Rules[1].Before) != "{2 [{97 97}] [] }" || showPat(x.Rules[0].Before) != "{2 [{97 98}] [] }" || showPat(x.Rules[0].After) != "{2 [{97 97}] [] }" {
		t.Error(showBook(x))
	}
	for i, want := range []api.Item{allowed("dead", 5000, 0), allowed("idle", -1, 29), allowed("dead", 5000, 62), allowed("zz", 9500, 76)} {
		if showItem(x.Allows[i]) != showItem(want) {
			t.Error(i, showItem(x.Allows[i]))
		}
	}
	for s, want := range map[string]struct {
		at int
		e  api.Errno
	}{
		"$a=$a":                                      {0, api.ErrName},
		"$a=$b\n$b=.":                                {0, api.ErrName},
		"3 $a \u00d7\n$a=.":                          {0, api.ErrName},
		"3 \u00d7 $a\n$a=.":                          {0, api.ErrName},
		"$a=.\n3 $a \u00d7 [$b]\n$b=.":               {5, api.ErrName},
		"$a=.\n3 $a \u00d7\n4 $b \u00d7\n$b=.":       {13, api.ErrName},
		"$a=.\n3 $a \u00d7\n$a=.":                    {13, api.ErrTwice},
		"$a=.\n$b=.\n\n #allow dead\n$a=$q":          {24, api.ErrTwice},
		"$a=.+\n3 [$a] \u00d7":                       {6, api.ErrKind},
		"$a=.+\n3 \u00d7 [^$a]":                      {6, api.ErrKind},
		"$a=.+\n$b=$a\n$c=[[a]&$b]":                  {12, api.ErrKind},
		"#allow dead\n3 $A \u00d7 $a\n$a=.\n$A=.":    {12, api.ErrName},
		"$a=.\n  3 \u00d7\n  3 \u00f7 $q\n$a=.":      {14, api.ErrTwice},
		"$a=.\n  3 \u00d7\n  4 \u00f7 $q\n$a=.":      {14, api.ErrName},
		"\n\n# x\n$a=[$a]":                           {6, api.ErrName},
		"$a=[$q $q]\n$a=.\n3 $r \u00d7\n3 $r \u00d7": {0, api.ErrName},
	} {
		if x, at, e := rule.Read([]byte(s)); at != want.at || e != want.e || showBook(x) != showBook(api.Book{}) {
			t.Errorf("%q: %d %d, not %d %d", s, at, e, want.at, want.e)
		}
		check(t, items(t, s))
	}
	// A name that is given later says nothing of an earlier rule.
	early := read(t, "$a=[a]\n3 $a \u00d7\n$b=[b]\n4 $b \u00d7")
	if showPat(early.Rules[0].Before) != "{2 [{97 97}] [] }" || showPat(early.Rules[1].Before) != "{2 [{98 98}] [] }" {
		t.Error(showBook(early))
	}
}

// P9.1: #allow lines stay in order, whatever stands in them and between them, and say nothing of the rest.
func TestAllows(t *testing.T) {
	strange := api.Item{Kind: 3, Name: "no kind", Number: -77, Cut: true, Before: name("a"), After: set(0, name("q")), Pos: -5}
	l := []api.Item{strange, given("a", anyOne, 1), allowed("dead", 5, 2), ruled(9, none, name("b"), 3), strange, allowed("dead", 5, 4)}
	refuse(t, l, 2, api.ErrName)
	l[3].After = anyOne
	x := take(t, l)
	if showItems(x.Allows) != showItems([]api.Item{strange, l[2], strange, l[5]}) || len(x.Used) != 0 {
		t.Error(showBook(x))
	}
}

// P9.1: texts that layer 6 refuses, with its place and its error.
func TestTextsThatAreRefused(t *testing.T) {
	for s, want := range map[string]struct {
		at int
		e  api.Errno
	}{
		"$a":                              {2, api.ErrEnd},
		"3":                               {1, api.ErrEnd},
		"3 . .\n":                         {5, api.ErrSign},
		"\u00d7":                          {0, api.ErrSign},
		"3 \u00d7 .**":                    {7, api.ErrSign},
		"$a=.\n$a=.\n!":                   {10, api.ErrSign},
		"3 $q \u00d7\n[":                  {9, api.ErrEnd},
		"3 \u00d7\n03 \u00d7":             {5, api.ErrSign},
		"1234 \u00d7":                     {0, api.ErrLong},
		"$a=[b-a]":                        {4, api.ErrRange},
		"$a=[\\q]":                        {4, api.ErrEscape},
		"3 \u00d7\n\xff":                  {5, api.ErrBytes},
		"$abcdefghijklmnopq=.":            {0, api.ErrLong},
		"3 ((((((((((((( \u00d7":          {14, api.ErrDeep},
		strings.Repeat("#allow x\n", 101): {900, api.ErrMany},
		"#allow X":                        {0, api.ErrSign},
		strings.Repeat("#", 3001):         {0, api.ErrLong},
	} {
		_, at, e := expr.Of([]byte(s))
		if at != want.at || e != want.e {
			t.Errorf("%.40q: layer 6 says %d %d, not %d %d", s, at, e, want.at, want.e)
		}
		if x, at, e := rule.Read([]byte(s)); at != want.at || e != want.e || showBook(x) != showBook(api.Book{}) {
			t.Errorf("%.40q: %d %d, not %d %d", s, at, e, want.at, want.e)
		}
	}
	if x := read(t, strings.Repeat("#allow x\n", 100)); len(x.Allows) != 100 {
		t.Error(len(x.Allows))
	}
	// Texts of all signs, up to so many.
	signs := []string{"$a", "$b", "3", "4", "=", "\u00d7", "\u00f7", ".", "[", "]", "\n", "+", "#allow x\n", "\xd7"}
	var all func(s string, more int)
	all = func(s string, more int) {
		l, at, e := expr.Of([]byte(s))
		want, wantAt, wantE := api.Book{}, at, e
		if e == api.OK {
			want, wantAt, wantE = bookOf(l)
		}
		if x, at, e := rule.Read([]byte(s)); at != wantAt || e != wantE || showBook(x) != showBook(want) {
			t.Fatalf("%q: %s %d %d, not %s %d %d", s, showBook(x), at, e, showBook(want), wantAt, wantE)
		}
		for _, sign := range signs {
			if more > 0 {
				all(s+sign+" ", more-1)
			}
		}
	}
	all("", 3)
	all("$a=[a]\n", 3)
	all("3 $a \u00d7\n", 2)
	all("$b=[b]\n3 $b \u00d7\n4 ", 3)
}

// P9.1: the names in a form.
func TestNames(t *testing.T) {
	for s, want := range map[string]string{
		"()":                              "",
		".":                               "",
		"[a]":                             "",
		"$a":                              "a",
		"$a $a":                           "a",
		"$b $a $b":                        "b a",
		"$c|$b|$a|$b|$c":                  "c b a",
		"$b ($a|[$c $b]) $a":              "b a c",
		"[$z]":                            "z",
		"[^$z [$y-$x] $y&$w]+ $v? $u*":    "z y x w v u",
		"[[[$d]&$c]-$b] $a":               "d c b a",
		"(((($q)*)+)?) . [x] ($Q|$q_)":    "q Q q_",
		"$a1 $a_ $a $A $abcdefghijklmnop": "a1 a_ a A abcdefghijklmnop",
	} {
		n := items(t, "$x="+s)[0].Before
		if got := rule.Names(n); strings.Join(got, " ") != want || !slices.Equal(got, namesIn(n)) {
			t.Errorf("%q: %q, not %q", s, got, want)
		}
	}
	// A name is that of a NodeName, wherever it stands; what it is may be any text.
	inner := []api.Node{name("b"), name(""), name("\xff")}
	for _, kind := range []int{0, 1, 3, 4, 5, 6, 7, 8, 9, 10, 11, 12, 13, -1, math.MaxInt, math.MinInt} {
		n := api.Node{Kind: kind, Name: "a", Low: 1, Kids: inner}
		if got := rule.Names(n); !slices.Equal(got, []string{"b", "", "\xff"}) {
			t.Errorf("%d: %q", kind, got)
		}
		if got := rule.Names(api.Node{Kind: kind, Name: "a"}); len(got) != 0 {
			t.Errorf("%d: %q", kind, got)
		}
	}
	if got := rule.Names(api.Node{Kind: 2, Name: "a", Kids: inner}); !slices.Equal(got, []string{"a", "b", "", "\xff"}) {
		t.Errorf("%q", got)
	}
	// Within 200 others, and very many of them.
	deep := name("a")
	for i := range 200 {
		deep = node(api.NodeJoin, deep, name(fmt.Sprint("n", i%150)))
	}
	if got := rule.Names(deep); len(got) != 151 || got[0] != "a" || got[1] != "n0" || got[150] != "n149" {
		t.Errorf("%q", got)
	}
	var flat []api.Node
	for i := range 100000 {
		flat = append(flat, name(fmt.Sprint(i%60000)))
	}
	if got := rule.Names(node(api.NodeOr, flat...)); len(got) != 60000 || got[59999] != "59999" {
		t.Error(len(got))
	}
}

// P9.1: Kids that are shared, as many times over as no one could write out, or not all of them.
func TestSharedKids(t *testing.T) {
	huge := node(api.NodeJoin, name("b"), name("a"))
	for i := range 199 {
		huge = node([]int{8, 9, 4, 6}[i%4], huge, huge)
	}
	if got := rule.Names(huge); !slices.Equal(got, []string{"b", "a"}) {
		t.Errorf("%q", got)
	}
	if got := rule.Names(node(api.NodeJoin, name("a"), huge, name("c"), huge)); !slices.Equal(got, []string{"a", "b", "c"}) {
		t.Errorf("%q", got)
	}
	l := []api.Item{given("a", anyOne, 1), given("b", anyOne, 2)}
	sets := set(0, name("b"))
	for range 199 {
		sets = set(0, sets, sets)
	}
	if _, at, e := rule.Build(append(slices.Clone(l), ruled(3, none, huge, 4))); at != 4 || e != api.ErrKind {
		t.Error(at, e)
	}
	if x, at, e := rule.Build(append(slices.Clone(l), ruled(3, none, sets, 4), given("c", sets, 5))); at != -1 || e != api.OK || !slices.Equal(x.Used, []string{"b"}) || showPat(x.Rules[0].After) != showPat(x.Vars[2].Pat) {
		t.Error(at, e, x.Used)
	}
	// One memory, but not as many of it.
	kids := []api.Node{name("a"), name("b"), name("c")}
	for _, x := range [][2][]api.Node{{kids[:1], kids}, {kids[:2], kids[:1]}, {kids[1:], kids[:2]}, {kids, kids[:2]}, {kids[2:], kids[1:]}} {
		n := node(api.NodeOr, node(api.NodeJoin, x[0]...), node(api.NodeJoin, x[1]...))
		if got := rule.Names(n); !slices.Equal(got, namesIn(n)) {
			t.Errorf("%q, not %q", got, namesIn(n))
		}
	}
	// What Before and After of one rule, or two items, share.
	shared := node(api.NodeJoin, kids[:2]...)
	if x := take(t, append(slices.Clone(l), ruled(3, shared, shared, 4), ruled(4, shared, none, 5), given("c", shared, 6))); !slices.Equal(x.Used, []string{"a", "b"}) {
		t.Errorf("%q", x.Used)
	}
}

// P9.1: which names are used, in the order in which they were given.
func TestUsed(t *testing.T) {
	ahead := "$a=[a]\n$b=[b]\n$c=.\n$d=[d]\n"
	for s, want := range map[string]string{
		"":                                     "",
		"3 \u00d7":                             "",
		"3 $a \u00d7":                          "a",
		"3 \u00f7 $a":                          "a",
		"3 $d $b \u00d7 $a":                    "a b d",
		"3 $b \u00d7\n2 $a \u00d7":             "a b",
		"3 $b $b \u00d7 $b\n4 \u00d7 $b":       "b",
		"3 [$d-$c] \u00d7":                     "c d",
		"3 . ([^$d]+|$a?)* \u00d7":             "a d",
		"$e=$d":                                "d",
		"$e=$d\n$f=$e\n$g=[$f]":                "d e f",
		"$e=[$b&$b]\n3 $a \u00d7":              "a b",
		"$e=$c\n3 $e \u00d7":                   "c e",
		"#allow a\n#allow dead\n3 \u00d7 # $a": "",
	} {
		if x := read(t, ahead+s); strings.Join(x.Used, " ") != want {
			t.Errorf("%q: %q, not %q", s, x.Used, want)
		}
	}
	// An ItemName's form is its Before alone, an ItemAllow has none.
	after := given("c", name("b"), 3)
	after.After = name("a")
	allow := allowed("dead", -1, 4)
	allow.Before, allow.After = name("c"), name("c")
	if x := take(t, []api.Item{given("a", anyOne, 1), given("b", anyOne, 2), after, allow}); strings.Join(x.Used, " ") != "b" {
		t.Errorf("%q", x.Used)
	}
	// A name that its own line alone writes isn't used.
	if x := read(t, "$a=[a]\n$b=[a]\n$c=[$b]"); strings.Join(x.Used, " ") != "b" {
		t.Errorf("%q", x.Used)
	}
}

// P9.1: books that differ in one thing alone.
func TestSame(t *testing.T) {
	whole := func() api.Book {
		return read(t, "$a=[a]\n$b=$a+\n$c=.\n3 $a \u00d7 .\n4 \u00f7 $b\n#allow dead 3\n#allow idle")
	}
	for i, change := range []func(x *api.Book){
		func(x *api.Book) { x.Vars[0].Pos = 99 },
		func(x *api.Book) { x.Vars[2].Pos = -1 },
		func(x *api.Book) { x.Rules[0].Pos = 99 },
		func(x *api.Book) { x.Rules[1].Pos = -1 },
		func(x *api.Book) { x.Allows[0].Pos, x.Allows[1].Pos = 1, 2 },
		func(x *api.Book) {
			x.Vars = append(make([]api.Var, 0, 9), x.Vars...)
		},
	} {
		x := whole()
		change(&x)
		if !rule.Same(x, whole()) || !rule.Same(whole(), x) {
			t.Error(i)
		}
	}
	for i, change := range []func(x *api.Book){
		func(x *api.Book) { *x = api.Book{} },
		func(x *api.Book) { x.Vars = nil },
		func(x *api.Book) { x.Vars = x.Vars[:2] },
		func(x *api.Book) { x.Vars = x.Vars[1:] },
		func(x *api.Book) { x.Vars = append(x.Vars, x.Vars[0]) },
		func(x *api.Book) { x.Vars[0], x.Vars[1] = x.Vars[1], x.Vars[0] },
		func(x *api.Book) { x.Vars[0].Name = "A" },
		func(x *api.Book) { x.Vars[2].Name = "" },
		func(x *api.Book) { x.Vars[0].Set = false },
		func(x *api.Book) { x.Vars[1].Set = true },
		func(x *api.Book) { x.Vars[0].Pat.Kind = api.PatEmpty },
		func(x *api.Book) { x.Vars[0].Pat.Set[0].High++ },
		func(x *api.Book) { x.Vars[1].Pat.Kids[0].Signs = []int{0} },
		func(x *api.Book) { x.Rules = nil },
		func(x *api.Book) { x.Rules = x.Rules[:1] },
		func(x *api.Book) { x.Rules = x.Rules[1:] },
		func(x *api.Book) { x.Rules = append(x.Rules, x.Rules[1]) },
		func(x *api.Book) { x.Rules[0], x.Rules[1] = x.Rules[1], x.Rules[0] },
		func(x *api.Book) { x.Rules[0].Number++ },
		func(x *api.Book) { x.Rules[1].Number = -1 },
		func(x *api.Book) { x.Rules[0].Cut = true },
		func(x *api.Book) { x.Rules[1].Cut = false },
		func(x *api.Book) { x.Rules[0].Before.Set[0].Low = 1 },
		func(x *api.Book) { x.Rules[0].After.Signs = []int{3} },
		func(x *api.Book) { x.Rules[1].Before = x.Rules[1].After },
		func(x *api.Book) { x.Rules[1].After.Kids = nil },
		func(x *api.Book) { x.Rules[1].Before, x.Rules[1].After = x.Rules[1].After, x.Rules[1].Before },
		func(x *api.Book) { x.Allows = nil },
		func(x *api.Book) { x.Allows = x.Allows[:1] },
		func(x *api.Book) { x.Allows = append(x.Allows, x.Allows[0]) },
		func(x *api.Book) { x.Allows[0], x.Allows[1] = x.Allows[1], x.Allows[0] },
		func(x *api.Book) { x.Allows[0].Kind = 2 },
		func(x *api.Book) { x.Allows[0].Name = "idle" },
		func(x *api.Book) { x.Allows[0].Number = -1 },
		func(x *api.Book) { x.Allows[0].Cut = true },
		func(x *api.Book) { x.Allows[1].Before = none },
		func(x *api.Book) { x.Allows[1].After.Low = 1 },
		func(x *api.Book) { x.Used = nil },
		func(x *api.Book) { x.Used = x.Used[:1] },
		func(x *api.Book) { x.Used = append(x.Used, "c") },
		func(x *api.Book) { x.Used[0], x.Used[1] = x.Used[1], x.Used[0] },
		func(x *api.Book) { x.Used[1] = "B" },
	} {
		x := whole()
		change(&x)
		if rule.Same(x, whole()) || rule.Same(whole(), x) || !rule.Same(x, x) {
			t.Error(i)
		}
	}
	empty := api.Book{Vars: []api.Var{}, Rules: []api.Rule{}, Allows: []api.Item{}, Used: []string{}}
	if !rule.Same(empty, api.Book{}) || !rule.Same(api.Book{}, empty) || !rule.Same(whole(), whole()) {
		t.Error("empty")
	}
	for s, want := range map[string]bool{
		"\n$a = [a-a] # x\n$b=[a]+\n$c=$c2\n": false,
		"4 \u00f7 $b\n":                       false,
		"#allow dead 3\n$a = [a a]\n#allow idle\n$b = $a+ # b\n\n$c = [^]\n4.0 () \u00f7 $b\n3.000 $a \u00d7 [.^]":  false,
		"#allow dead 3\n$a = [a a]\n#allow idle\n$b = $a+ # b\n\n$c = [^]\n4.0 () \u00f7 $b\n3.000 $a \u00d7 [^]":   true,
		"#allow idle\n$a = [a a]\n#allow dead 3\n$b = $a+ # b\n\n$c = [^]\n4.0 () \u00f7 $b\n3.000 $a \u00d7 [^]":   false,
		"#allow dead 3\n$c = .\n#allow idle\n$a=[a]\n$b = $a+ # b\n\n4.0 () \u00f7 $b\n3.000 $a \u00d7 [^]":         false,
		"#allow dead 3\n$a = [a a]\n#allow idle\n$b = [a]+ # b\n\n$c = [^]\n4.0 () \u00f7 $b\n3.000 $a \u00d7 [^]":  true,
		"#allow dead 3\n$a = [a a]\n#allow idle\n$b = [a]+ # b\n\n$c = [^]\n4.0 () \u00f7 $b\n3.000 [a] \u00d7 [^]": false,
	} {
		x, _, _ := rule.Read([]byte(s))
		if rule.Same(x, whole()) != want || rule.Same(whole(), x) != want {
			t.Errorf("%q: %s", s, showBook(x))
		}
	}
}

// P9.1: books whose forms stand within 200 others.
func TestDeepForms(t *testing.T) {
	deep := func(n api.Node) api.Node {
		for range 200 {
			n = node(api.NodePlus, n)
		}
		return n
	}
	build := func(n api.Node) api.Book {
		x := take(t, []api.Item{given("a", n, 1), ruled(2, n, name("a"), 2), ruled(3, none, n, 3)})
		x.Allows = []api.Item{{Kind: 3, Before: n, After: n}}
		return x
	}
	x, y, z := build(deep(anyOne)), build(deep(anyOne)), build(deep(none))
	if !rule.Same(x, y) || rule.Same(x, z) || len(x.Used) != 1 {
		t.Error("deep")
	}
	z.Vars, z.Rules = x.Vars, x.Rules
	if rule.Same(x, z) {
		t.Error("deep")
	}
	if n := rule.Names(deep(name("a"))); !slices.Equal(n, []string{"a"}) {
		t.Error(n)
	}
}

// maker makes items that hang on its seed alone.
type maker struct {
	seed  uint32
	wrong int // one node or item of so many is as it may not be
}

func (m *maker) next(n int) int {
	m.seed = m.seed*1664525 + 1013904223
	return int(m.seed>>8) % n
}

func (m *maker) name() string { return string(rune('a' + m.next(6))) }

func (m *maker) kids(deep int, make func(deep int) api.Node) []api.Node {
	var l []api.Node
	for range m.next(4) {
		l = append(l, make(deep-1))
	}
	return l
}

func (m *maker) member(deep int) api.Node {
	kind := m.next(5)
	switch {
	case kind == 0:
		return name(m.name())
	case deep == 0 || kind == 1:
		return one('a' + m.next(9))
	case kind == 2:
		return node(6+m.next(2), m.member(deep-1), m.member(deep-1))
	}
	return set(m.next(2), m.kids(deep, m.member)...)
}

func (m *maker) form(deep int) api.Node {
	if m.next(m.wrong) == 0 {
		return node(m.next(15)-1, m.kids(1, m.form)...)
	}
	kind := m.next(8)
	switch {
	case kind == 0:
		return none
	case kind == 1:
		return anyOne
	case kind < 4:
		return name(m.name())
	case deep <= 0 || kind == 4:
		return set(m.next(2), m.kids(2, m.member)...)
	case kind == 5:
		return node(10+m.next(3), m.form(deep-1))
	}
	return node(8+m.next(2), m.kids(deep, m.form)...)
}

func (m *maker) item(pos int) api.Item {
	if m.next(m.wrong) == 0 {
		return api.Item{Kind: m.next(6) - 1, Name: m.name(), Number: m.next(40) - 1, Before: m.form(1), After: m.form(1), Pos: pos}
	}
	switch m.next(5) {
	case 0, 1:
		return given(m.name(), m.form(2), pos)
	case 2:
		return allowed(m.name(), m.next(40)-1, pos)
	}
	x := ruled(m.next(300), m.form(2), m.form(2), pos)
	x.Cut = m.next(2) == 1
	return x
}

// P9.1: many lists of items, right and wrong.
func TestManyItems(t *testing.T) {
	met := map[int]int{}
	for seed := range uint32(4000) {
		m := &maker{seed: seed * 2654435761, wrong: 100 + int(seed%5)*100}
		var l []api.Item
		// Names that most forms know.
		if seed%3 > 0 {
			for i := range 6 {
				l = append(l, given(string(rune('a'+i)), set(i%2, one('a'+i)), 1000+i))
			}
		}
		for i := range m.next(12) {
			x := m.item(i)
			_, _, e := check(t, append(slices.Clone(l), x))
			met[int(e)]++
			if e == api.OK {
				l = append(l, x)
			}
		}
		check(t, l)
	}
	if met[0] < 5000 || met[1] < 10 || met[10] < 1000 || met[11] < 1000 || met[12] < 50 {
		t.Error(met)
	}
}

// moved: items, so many of them put elsewhere.
func (m *maker) moved(l []api.Item) []api.Item {
	l = slices.Clone(l)
	for i := len(l) - 1; i > 0; i-- {
		j := m.next(i + 1)
		l[i], l[j] = l[j], l[i]
	}
	return l
}

// P9.2: the same rules in all orders, and in many orders of many of them; each is found by its number.
func TestRulesInAnyOrder(t *testing.T) {
	ahead := items(t, "$a=[a]\n$b=$a+\n$c=[^$a]\n")
	behind := items(t, "9 $a \u00d7\n3.5 $b \u00f7 $a\n0 \u00d7 [$c]\n999.999 ($a|$b)* \u00f7\n3.49 \u00d7")
	book := take(t, slices.Concat(ahead, behind))
	var all func(sofar, left []api.Item)
	all = func(sofar, left []api.Item) {
		if len(left) == 0 {
			x := take(t, slices.Concat(ahead, sofar))
			if !rule.Same(x, book) || showBook(x) != showBook(book) {
				t.Fatal(showItems(sofar), showBook(x))
			}
		}
		for i := range left {
			all(append(slices.Clone(sofar), left[i]), slices.Delete(slices.Clone(left), i, i+1))
		}
	}
	all(nil, behind)
	for i, number := range []int{0, 3490, 3500, 9000, 999999} {
		if rule.Find(book, number) != i || rule.Find(book, number+1) != -1 || rule.Find(book, number-1) != -1 {
			t.Error(i, number)
		}
	}
	for seed := range uint32(300) {
		m := &maker{seed: seed * 2246822519}
		l := names(3)
		var some []api.Item
		for number := range 30 {
			some = append(some, ruled(number*number*(1+m.next(3)), name(fmt.Sprint("n", m.next(3))), none, 1000+number))
		}
		x, _, e := check(t, slices.Concat(l, some))
		y, _, f := check(t, slices.Concat(l, m.moved(some)))
		if e != f || e == api.OK && (!rule.Same(x, y) || showBook(x) != showBook(y)) {
			t.Fatal(seed, e, f)
		}
		for i, r := range x.Rules {
			if rule.Find(x, r.Number) != i || rule.Find(y, r.Number) != i || i > 0 && x.Rules[i-1].Number >= r.Number {
				t.Fatal(seed, i)
			}
		}
	}
}

// P9.2: lines of a text in many orders; allows between them keep their own.
func TestLinesInAnyOrder(t *testing.T) {
	names := "$a=[a-c]\n$b=[$a-[b]]\n"
	lines := []string{"3 $a \u00d7", "2.5 $b \u00f7 .", "10 \u00f7", "4 \u00d7 ($a|$b)+", "0.001 $b? \u00d7", "999 . \u00f7"}
	book := read(t, names+strings.Join(lines, "\n")+"\n#allow dead\n#allow idle 3")
	for seed := range uint32(200) {
		m := &maker{seed: seed * 2654435761}
		moved := slices.Clone(lines)
		for i := len(moved) - 1; i > 0; i-- {
			j := m.next(i + 1)
			moved[i], moved[j] = moved[j], moved[i]
		}
		i := m.next(len(moved) + 1)
		j := i + m.next(len(moved)+1-i)
		s := names + strings.Join(slices.Concat(moved[:i], []string{"#allow dead"}, moved[i:j], []string{"#allow idle 3"}, moved[j:]), "\n")
		if x := read(t, s); !rule.Same(x, book) {
			t.Errorf("%q: %s", s, showBook(x))
		}
	}
	// Where a name is given between them, their order says something.
	if _, at, e := rule.Read([]byte("3 $a \u00d7\n$a=.\n4 \u00d7")); at != 0 || e != api.ErrName {
		t.Error(at, e)
	}
	if x := read(t, "4 \u00d7\n$a=.\n3 $a \u00d7"); x.Rules[0].Number != 3000 {
		t.Error(showBook(x))
	}
}

// P9.2: Find in books that no one built: the first one of that number, wherever it stands.
func TestFind(t *testing.T) {
	x := api.Book{Rules: []api.Rule{{Number: 9}, {Number: 3}, {Number: 9, Cut: true}, {Number: -1}, {Number: math.MaxInt}, {Number: math.MinInt}, {Number: 3}}}
	for number, want := range map[int]int{9: 0, 3: 1, -1: 3, math.MaxInt: 4, math.MinInt: 5, 0: -1, 8: -1, 10: -1} {
		if got := rule.Find(x, number); got != want {
			t.Error(number, got)
		}
	}
	if rule.Find(api.Book{}, 0) != -1 || rule.Find(api.Book{Vars: make([]api.Var, 3), Allows: []api.Item{{Number: 3}}}, 3) != -1 {
		t.Error("found")
	}
}

// spoil: all that a form's lists hold, and their spare room.
func spoil(p api.Pat) {
	for i := range p.Set[:cap(p.Set)] {
		p.Set[:cap(p.Set)][i] = api.Range{Low: -7, High: -7}
	}
	for i := range p.Kids {
		spoil(p.Kids[i])
	}
	for i := range p.Kids[:cap(p.Kids)] {
		p.Kids[:cap(p.Kids)][i] = api.Pat{Kind: -7}
	}
}

// fill: the spare room of all lists of a form.
func fill(p api.Pat) {
	for i := len(p.Set); i < cap(p.Set); i++ {
		p.Set[:cap(p.Set)][i] = api.Range{Low: -7, High: -7}
	}
	for i := len(p.Kids); i < cap(p.Kids); i++ {
		p.Kids[:cap(p.Kids)][i] = api.Pat{Kind: -7}
	}
	for _, k := range p.Kids {
		fill(k)
	}
}

// What is handed in isn't changed, its spare room neither; a book's forms are its own, and no two share memory; nothing is kept.
func TestWhatIsHandedInStays(t *testing.T) {
	kids := []api.Node{name("a"), anyOne, name("b"), name("spare")}
	shared := node(api.NodeJoin, kids[:3]...)
	room := []api.Item{
		given("b", set(0, one('b')), 1), ruled(9, shared, shared, 2), allowed("dead", 9, 3), given("c", shared, 4),
		ruled(3, name("c"), shared, 5), allowed("dead", 3, 6), given("d", name("c"), 7), ruled(-4, name("d"), name("a"), 8),
		given("spare", none, 9), given("spare", none, 10),
	}
	room = slices.Insert(room, 0, given("a", set(1, one('a')), 0))
	l := room[:9]
	shown, shownKids := showItems(room), showNode(node(8, kids...))
	unchanged := func() {
		t.Helper()
		if showItems(room) != shown || showNode(node(8, kids...)) != shownKids {
			t.Fatal("an argument changed")
		}
	}
	x, at, e := check(t, l)
	if at != -1 || e != api.OK {
		t.Fatal(at, e)
	}
	unchanged()
	shownBook := showBook(x)
	for _, v := range x.Vars {
		fill(v.Pat)
	}
	for _, r := range x.Rules {
		fill(r.Before)
		fill(r.After)
	}
	if showBook(x) != shownBook {
		t.Error("two lists of a book share memory:", showBook(x))
	}
	if n := rule.Names(shared); len(n) != 2 || rule.Find(x, 9) != 2 || rule.Right(x) || !rule.Same(x, x) {
		t.Error(n)
	}
	if showBook(x) != shownBook {
		t.Error("an argument changed")
	}
	spoil(x.Vars[2].Pat)
	left := x.Vars[3].Pat
	if showPat(left) != showPat(x.Rules[1].Before) || showPat(left) != showPat(x.Rules[0].Before) || left.Kids[1].Set[0].Low != 0 {
		t.Error("two forms share memory")
	}
	for _, r := range x.Rules {
		spoil(r.Before)
		spoil(r.After)
	}
	clear(x.Vars[:cap(x.Vars)])
	clear(x.Rules[:cap(x.Rules)])
	clear(x.Allows[:cap(x.Allows)])
	clear(x.Used[:cap(x.Used)])
	unchanged()
	if y, _, _ := rule.Build(l); showBook(y) != shownBook {
		t.Error("something was kept")
	}
	text := []byte("$a=[a]\n3 $a \u00d7\n#allow dead 3 ")
	whole := string(text)
	read := text[:len(text)-1]
	y, _, e := rule.Read(read)
	before := showBook(y)
	if e != api.OK || string(text) != whole {
		t.Error(e, string(text))
	}
	for i := range text {
		text[i] = 'x'
	}
	if showBook(y) != before {
		t.Error("a book changed with its text")
	}
}
