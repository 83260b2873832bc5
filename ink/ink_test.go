package ink_test

import (
	"fmt"
	"math"
	"slices"
	"strconv"
	"strings"
	"testing"

	"caesura/api"
	"caesura/expr"
	"caesura/ink"
	"caesura/word"
)

// node, name, reach, set: nodes, written down.
func node(kind int, kids ...api.Node) api.Node { return api.Node{Kind: kind, Kids: kids} }

func name(s string) api.Node { return api.Node{Kind: 2, Name: s} }

func reach(low, high int) api.Node { return api.Node{Kind: 5, Low: low, High: high} }

func set(low int, kids ...api.Node) api.Node { return api.Node{Kind: 4, Low: low, Kids: kids} }

func one(c int) api.Node { return reach(c, c) }

var none, anyOne = node(1), node(3)

// show: a form with all that is in it, as a text.
func show(n api.Node) string {
	var kids []string
	for _, k := range n.Kids {
		kids = append(kids, show(k))
	}
	return fmt.Sprintf("%d %q %d %d (%s)", n.Kind, n.Name, n.Low, n.High, strings.Join(kids, ", "))
}

// showAll: items with all that is in them, a line each.
func showAll(l []api.Item) string {
	var s strings.Builder
	for _, x := range l {
		fmt.Fprintf(&s, "%d %q %d %v {%s} {%s} at %d\n", x.Kind, x.Name, x.Number, x.Cut, show(x.Before), show(x.After), x.Pos)
	}
	return s.String()
}

// sizes: how many nodes, and how deep.
func sizes(n api.Node) (many, deep int) {
	for _, k := range n.Kids {
		m, d := sizes(k)
		many, deep = many+m, max(deep, d)
	}
	return many + 1, deep + 1
}

const nameLetters = "abcdefghijklmnopqrstuvwxyzABCDEFGHIJKLMNOPQRSTUVWXYZ"

// isName: the words of the document for a name.
func isName(s string) bool {
	return len(s) >= 1 && len(s) <= 16 &&
		!strings.ContainsFunc(s, func(r rune) bool { return !strings.ContainsRune(nameLetters+"0123456789_", r) }) &&
		strings.IndexByte(nameLetters, s[0]) >= 0
}

// mayStand: the words of the document for what each node must be, in a form or in a set.
func mayStand(n api.Node, inSet bool) bool {
	want := api.Node{Kind: n.Kind}
	least, most, kidsInSet := 0, 0, false
	switch n.Kind {
	case 1, 3:
		least, most = 0, 0
	case 2:
		if !isName(n.Name) {
			return false
		}
		want.Name = n.Name
	case 4:
		if n.Low != 0 && n.Low != 1 {
			return false
		}
		want.Low, most, kidsInSet = n.Low, math.MaxInt, true
	case 5:
		if n.Low < 0 || n.High > 0x10ffff || n.Low > n.High {
			return false
		}
		want.Low, want.High = n.Low, n.High
	case 6, 7:
		least, most, kidsInSet = 2, 2, true
	case 8, 9:
		least, most = 2, math.MaxInt
	case 10, 11, 12:
		least, most = 1, 1
	}
	places := map[int]string{1: "form", 2: "form set", 3: "form", 4: "form set", 5: "set", 6: "set", 7: "set", 8: "form", 9: "form", 10: "form", 11: "form", 12: "form"}
	if !strings.Contains(places[n.Kind], map[bool]string{false: "form", true: "set"}[inSet]) {
		return false
	}
	if n.Name != want.Name || n.Low != want.Low || n.High != want.High || len(n.Kids) < least || len(n.Kids) > most {
		return false
	}
	for _, k := range n.Kids {
		if !mayStand(k, kidsInSet) {
			return false
		}
	}
	if n.Kind != 6 && n.Kind != 7 {
		return true
	}
	first, second := n.Kids[0], n.Kids[1]
	if second.Kind == 6 || second.Kind == 7 {
		return false
	}
	last := first
	if first.Kind == 6 || first.Kind == 7 {
		last = first.Kids[1]
	}
	return n.Kind == 6 || last.Kind == 2 || last.Kind == 4
}

// may: the words of the document for a form.
func may(n api.Node) bool {
	many, deep := sizes(n)
	return many <= 500 && deep <= 100 && mayStand(n, false)
}

// charText: a character, as layer 4's chapter says that it is written.
func charText(c int) string {
	if c < 128 && strings.IndexByte(nameLetters+"0123456789", byte(c)) >= 0 {
		return string(rune(c))
	}
	return "\\u{" + strconv.FormatInt(int64(c), 16) + "}"
}

// textOf: the words of the document for how a form that may be is written.
func textOf(n api.Node) string {
	var kids []string
	for _, k := range n.Kids {
		s := textOf(k)
		three := n.Kind >= 10 && k.Kind >= 10
		if k.Kind == 9 || k.Kind == 8 && n.Kind != 9 || three {
			s = "(" + s + ")"
		}
		kids = append(kids, s)
	}
	switch n.Kind {
	case 1:
		return "()"
	case 2:
		return "$" + n.Name
	case 3:
		return "."
	case 4:
		return map[int]string{0: "[", 1: "[^"}[n.Low] + strings.Join(kids, " ") + "]"
	case 5:
		if n.Low == n.High {
			return charText(n.Low)
		}
		return charText(n.Low) + "-" + charText(n.High)
	case 9:
		return strings.Join(kids, " | ")
	}
	return strings.Join(kids, map[int]string{6: "&", 7: "-", 8: " "}[n.Kind]) + map[int]string{10: "*", 11: "+", 12: "?"}[n.Kind]
}

// brackets: how many ( and [ of a text stand within one another.
func brackets(s string) int {
	most, open := 0, 0
	for _, c := range s {
		switch c {
		case '(', '[':
			open++
		case ')', ']':
			open--
		}
		most = max(most, open)
	}
	return most
}

// checkBack: a text that was written is read as the form that it was, unless it is too deep.
func checkBack(t *testing.T, s string, n api.Node) {
	t.Helper()
	l, at, e := word.Of([]byte(s))
	if e != api.OK {
		t.Fatalf("%s: %q isn't words: %d %d", show(n), s, at, e)
	}
	back, at, e := expr.Form(l, len(s))
	if brackets(s) > 12 {
		if e != api.ErrDeep {
			t.Fatalf("%q: %d %d", s, at, e)
		}
		return
	}
	if e != api.OK || show(back) != show(n) || !expr.Same(back, n) {
		t.Fatalf("%q is read as %s %d %d, not %s", s, show(back), at, e, show(n))
	}
}

// check: Right and Form of a form against the words of the document, and what is written read again; the error that Form answers.
func check(t *testing.T, n api.Node) api.Errno {
	t.Helper()
	want, wantE, right := "", api.ErrArg, may(n)
	if right {
		want, wantE = textOf(n), api.OK
		if len(want) > 3000 {
			want, wantE = "", api.ErrLong
		}
	}
	if got := ink.Right(n); got != right {
		t.Fatalf("%s: right %v, not %v", show(n), got, right)
	}
	s, e := ink.Form(n)
	if s != want || e != wantE {
		t.Fatalf("%s: %q %d, not %q %d", show(n), s, e, want, wantE)
	}
	if e == api.OK {
		checkBack(t, s, n)
	}
	return e
}

// expect: a form that is written so, alone, in a name's line, on both sides of a rule; and the test's own words of the document alike.
func expect(t *testing.T, n api.Node, want string) {
	t.Helper()
	if s, e := ink.Form(n); s != want || e != api.OK || !ink.Right(n) {
		t.Errorf("%s: %q %d, not %q", show(n), s, e, want)
	}
	check(t, n)
	l := []api.Item{
		{Kind: 1, Name: "n", Before: n},
		{Kind: 2, Number: 3100, Before: n, After: none},
		{Kind: 2, Number: 0, Cut: true, Before: none, After: n},
	}
	lines := "$n = " + want + "\n3.1 " + want + " \u00d7 ()\n0 () \u00f7 " + want + "\n"
	if s, e := ink.Items(l); s != lines || e != api.OK {
		t.Errorf("%q %d, not %q", s, e, lines)
	}
	checkItems(t, l)
}

// refuse: a form that may not be written; and the test's own words of the document alike.
func refuse(t *testing.T, n api.Node) {
	t.Helper()
	if s, e := ink.Form(n); s != "" || e != api.ErrArg || ink.Right(n) {
		t.Errorf("%s: %q %d", show(n), s, e)
	}
	check(t, n)
	for _, x := range []api.Item{
		{Kind: 1, Name: "n", Before: n},
		{Kind: 2, Before: n, After: none},
		{Kind: 2, Before: none, After: n},
	} {
		refuseItem(t, x)
	}
}

// refuseItem: an item that may not be written, alone and behind others.
func refuseItem(t *testing.T, x api.Item) {
	t.Helper()
	good := api.Item{Kind: 3, Name: "dead"}
	if ink.May(x) {
		t.Errorf("may be: %s", showAll([]api.Item{x}))
	}
	for _, l := range [][]api.Item{{x}, {good, x}, {x, good}} {
		if s, e := ink.Items(l); s != "" || e != api.ErrArg {
			t.Errorf("%s: %q %d", showAll(l), s, e)
		}
	}
}

// checkItems: items that are written are read as they were, but for where they stand; and what was read is written as it was.
func checkItems(t *testing.T, l []api.Item) {
	t.Helper()
	s, e := ink.Items(l)
	if e != api.OK {
		t.Fatalf("%s: %d", showAll(l), e)
	}
	back, at, e := expr.Of([]byte(s))
	if brackets(s) > 12 {
		if e != api.ErrDeep {
			t.Fatalf("%q: %d %d", s, at, e)
		}
		return
	}
	if e != api.OK || !expr.Items(back, l) {
		t.Fatalf("%q is read as %s%d %d, not %s", s, showAll(back), at, e, showAll(l))
	}
	again, e := ink.Items(back)
	if again != s || e != api.OK {
		t.Fatalf("%q is written again as %q %d", s, again, e)
	}
}

// P7.1: each kind of node alone.
func TestEachKind(t *testing.T) {
	a, b := name("a"), name("b")
	expect(t, none, "()")
	expect(t, anyOne, ".")
	expect(t, a, "$a")
	expect(t, set(0), "[]")
	expect(t, set(1), "[^]")
	expect(t, node(8, a, b), "$a $b")
	expect(t, node(9, a, b), "$a | $b")
	expect(t, node(10, a), "$a*")
	expect(t, node(11, a), "$a+")
	expect(t, node(12, a), "$a?")
	expect(t, set(0, one('x')), "[x]")
	expect(t, set(0, node(6, a, b)), "[$a&$b]")
	expect(t, set(0, node(7, a, b)), "[$a-$b]")
	for _, kind := range []int{5, 6, 7} {
		refuse(t, node(kind))
		refuse(t, node(kind, a, b))
	}
	refuse(t, one('x'))
	for _, kind := range []int{0, -1, 13, 14, math.MinInt, math.MaxInt} {
		refuse(t, node(kind))
		refuse(t, node(kind, a))
		refuse(t, node(kind, a, b))
		refuse(t, set(0, node(kind)))
		refuse(t, set(0, node(kind, a, b)))
		refuse(t, node(10, node(kind)))
		refuse(t, node(8, a, node(kind)))
	}
	empty := api.Node{Kind: 1, Kids: []api.Node{}}
	expect(t, empty, "()")
	expect(t, api.Node{Kind: 4, Low: 1, Kids: []api.Node{}}, "[^]")
}

// P7.1: names.
func TestNames(t *testing.T) {
	for _, s := range []string{"a", "z", "A", "Z", "a0", "Z9", "a_", "a__0", "b2_C", "abcdefghijklmnop", "A___0123456789_z", "u", "n"} {
		expect(t, name(s), "$"+s)
		expect(t, set(1, name(s)), "[^$"+s+"]")
		expect(t, node(8, name(s), name(s)), "$"+s+" $"+s)
		expect(t, set(0, name(s), name(s)), "[$"+s+" $"+s+"]")
		if x := (api.Item{Kind: 1, Name: s, Before: none}); !ink.May(x) {
			t.Error(s)
		}
	}
	for _, s := range []string{"", "0", "0a", "_", "_a", "9", "$a", "a$", "a b", " a", "a ", "a-", "-", "a.b", "a\n", "\x00", "a\x00", "\u00e4", "a\u00e4", "a\u00d7", "\xff", "a\xff", "@", "a@", "[", "a[", "`", "a`", "{", "a{", "a/", "a:", "abcdefghijklmnopq", "abcdefghijklmno\u00e4", strings.Repeat("a", 100000)} {
		refuse(t, name(s))
		refuse(t, set(0, name(s)))
		refuse(t, set(0, node(6, name(s), name("a"))))
		refuseItem(t, api.Item{Kind: 1, Name: s, Before: none})
	}
	for c := range 256 {
		check(t, name(string([]byte{byte(c)})))
		check(t, name(string([]byte{'a', byte(c)})))
		check(t, name(string([]byte{'a', byte(c), 'b'})))
	}
}

// P7.1: sets, and what stands in them.
func TestSets(t *testing.T) {
	a, b, c := name("a"), name("b"), name("c")
	expect(t, set(0, one('x'), one('y')), "[x y]")
	expect(t, set(1, one('x'), reach('b', 'd'), a), "[^x b-d $a]")
	expect(t, set(0, set(0)), "[[]]")
	expect(t, set(0, set(1, set(0), set(1))), "[[^[] [^]]]")
	expect(t, set(1, set(0, a), b, set(1, c)), "[^[$a] $b [^$c]]")
	expect(t, set(0, node(6, set(0, a), set(1, b))), "[[$a]&[^$b]]")
	expect(t, set(0, node(7, set(0, a), set(1, b))), "[[$a]-[^$b]]")
	expect(t, set(0, a, node(6, b, c), node(7, c, one('x')), one('y')), "[$a $b&$c $c-x y]")
	for _, low := range []int{2, -1, 3, math.MinInt, math.MaxInt} {
		refuse(t, set(low))
		refuse(t, set(low, a))
		refuse(t, set(0, set(low)))
		refuse(t, set(0, node(6, set(low), a)))
	}
	for _, kid := range []api.Node{none, anyOne, node(8, a, b), node(9, a, b), node(10, a), node(11, a), node(12, a), {}} {
		refuse(t, set(0, kid))
		refuse(t, set(1, a, kid))
		refuse(t, set(0, set(0, kid)))
		for _, kind := range []int{6, 7} {
			refuse(t, set(0, node(kind, a, kid)))
			refuse(t, set(0, node(kind, kid, a)))
		}
	}
	for _, kid := range []api.Node{one('x'), reach('a', 'b'), node(6, a, b), node(7, a, b)} {
		for _, kind := range []int{8, 9} {
			refuse(t, node(kind, kid, a))
			refuse(t, node(kind, a, kid))
			refuse(t, node(kind, a, set(0, a), kid))
		}
		for _, kind := range []int{10, 11, 12} {
			refuse(t, node(kind, kid))
		}
	}
}

// P7.1: ranges of one character and of several, characters that are written by their numbers.
func TestRanges(t *testing.T) {
	expect(t, set(0, reach('a', 'b')), "[a-b]")
	expect(t, set(0, reach('0', 'z')), "[0-z]")
	expect(t, set(0, one(0)), `[\u{0}]`)
	expect(t, set(0, one(0x10ffff)), `[\u{10ffff}]`)
	expect(t, set(0, reach(0, 0x10ffff)), `[\u{0}-\u{10ffff}]`)
	expect(t, set(1, reach(0xd800, 0xdfff), one(0xd9ab)), `[^\u{d800}-\u{dfff} \u{d9ab}]`)
	expect(t, set(0, one('\n'), one('\t'), one(' '), one('#')), `[\u{a} \u{9} \u{20} \u{23}]`)
	expect(t, set(0, one('-'), one('['), one(']'), one('&'), one('$'), one('^'), one('\\')), `[\u{2d} \u{5b} \u{5d} \u{26} \u{24} \u{5e} \u{5c}]`)
	expect(t, set(0, reach('-', 'a'), reach('A', '\\')), `[\u{2d}-a A-\u{5c}]`)
	expect(t, set(0, one('^')), `[\u{5e}]`)
	expect(t, set(0, one('_')), `[\u{5f}]`)
	expect(t, set(0, one(0xe4), one(0xd7), one(0x1f600)), `[\u{e4} \u{d7} \u{1f600}]`)
	for c := range 0x180 {
		check(t, set(0, one(c)))
		check(t, set(c&1, reach(c, c+1), name("a"), node(6, one(c), reach(0, c))))
		check(t, set(0, node(7, name("a"), reach(c, 0x10ffff))))
	}
	for _, r := range [][2]int{{1, 0}, {'b', 'a'}, {0x10ffff, 0x10fffe}, {-1, -1}, {-1, 5}, {0x110000, 0x110000}, {0, 0x110000}, {math.MinInt, math.MaxInt}, {0, math.MaxInt}, {math.MinInt, 0}, {math.MaxInt, math.MinInt}, {5, -1}} {
		n := reach(r[0], r[1])
		refuse(t, set(0, n))
		refuse(t, set(0, one('x'), n))
		refuse(t, set(0, node(6, n, one('x'))))
		refuse(t, set(0, node(7, name("a"), n)))
	}
}

// P7.1: & and - one behind the other, and what may stand ahead of a -.
func TestBothAndLess(t *testing.T) {
	a, b, c, x, y := name("a"), name("b"), name("c"), one('x'), reach('y', 'z')
	both := func(p, q api.Node) api.Node { return node(6, p, q) }
	less := func(p, q api.Node) api.Node { return node(7, p, q) }
	s := set(1, x)
	expect(t, set(0, both(x, y)), "[x&y-z]")
	expect(t, set(0, both(both(x, y), x)), "[x&y-z&x]")
	expect(t, set(0, less(less(a, b), c)), "[$a-$b-$c]")
	expect(t, set(0, less(both(a, s), c)), "[$a&[^x]-$c]")
	expect(t, set(0, both(less(a, b), c)), "[$a-$b&$c]")
	expect(t, set(0, less(both(x, a), y)), "[x&$a-y-z]")
	expect(t, set(0, both(less(a, x), y)), "[$a-x&y-z]")
	expect(t, set(0, less(less(less(s, s), a), x)), "[[^x]-[^x]-$a-x]")
	expect(t, set(0, less(both(less(both(y, a), b), s), y)), "[y-z&$a-$b&[^x]-y-z]")
	expect(t, set(0, less(s, x), less(a, x), both(x, x)), "[[^x]-x $a-x x&x]")
	expect(t, set(1, less(set(0, both(x, x)), x)), "[^[x&x]-x]")
	ends := []api.Node{a, s, x, y, both(x, a), both(x, s), both(a, x), both(a, y), less(a, b), less(a, s), less(a, x), less(s, y)}
	for i, first := range ends {
		wrong := slices.Contains([]int{2, 3, 6, 7, 10, 11}, i)
		for _, second := range []api.Node{a, s, x, y} {
			n := set(0, less(first, second))
			if wrong {
				refuse(t, n)
				refuse(t, set(0, b, less(first, second), b))
				refuse(t, set(0, both(less(first, second), a)))
			} else if e := check(t, n); e != api.OK {
				t.Error(show(n), e)
			}
			if e := check(t, set(0, both(first, second))); e != api.OK {
				t.Error(show(first), show(second), e)
			}
		}
		for _, second := range ends[4:] {
			refuse(t, set(0, less(first, second)))
			refuse(t, set(0, both(first, second)))
		}
	}
	for _, kind := range []int{6, 7} {
		refuse(t, set(0, node(kind)))
		refuse(t, set(0, node(kind, a)))
		refuse(t, set(0, node(kind, a, b, c)))
		refuse(t, node(kind, a, b))
		for _, first := range []api.Node{node(6), node(7), node(6, a), node(7, a), node(6, a, b, c), node(7, a, b, c)} {
			refuse(t, set(0, node(kind, first, a)))
			refuse(t, set(0, node(kind, a, first)))
		}
	}
}

// P7.1: forms in a row, parted, empty ones among them; which are put in ( and ).
func TestForms(t *testing.T) {
	a, b, c, s := name("a"), name("b"), name("c"), set(0, one('x'))
	row := func(l ...api.Node) api.Node { return node(8, l...) }
	part := func(l ...api.Node) api.Node { return node(9, l...) }
	expect(t, row(a, b, c), "$a $b $c")
	expect(t, row(anyOne, anyOne), ". .")
	expect(t, row(none, none), "() ()")
	expect(t, row(a, none, s), "$a () [x]")
	expect(t, part(a, b, c), "$a | $b | $c")
	expect(t, part(none, none, none), "() | () | ()")
	expect(t, part(none, a), "() | $a")
	expect(t, part(a, none), "$a | ()")
	expect(t, part(part(a, b), c), "($a | $b) | $c")
	expect(t, part(a, part(none, none)), "$a | (() | ())")
	expect(t, part(row(a, b), row(b, c)), "$a $b | $b $c")
	expect(t, row(part(a, b), part(b, c)), "($a | $b) ($b | $c)")
	expect(t, row(row(a, b), c), "($a $b) $c")
	expect(t, row(a, row(b, row(c, a))), "$a ($b ($c $a))")
	expect(t, part(row(row(a, b), c), c), "($a $b) $c | $c")
	expect(t, row(part(row(a, b), c), c), "($a $b | $c) $c")
	signs := []string{"*", "+", "?"}
	for i, sign := range signs {
		of := func(n api.Node) api.Node { return node(10+i, n) }
		expect(t, of(none), "()"+sign)
		expect(t, of(anyOne), "."+sign)
		expect(t, of(s), "[x]"+sign)
		expect(t, of(row(a, b)), "($a $b)"+sign)
		expect(t, of(part(a, b)), "($a | $b)"+sign)
		expect(t, of(part(row(a, b), c)), "($a $b | $c)"+sign)
		expect(t, row(of(a), of(b)), "$a"+sign+" $b"+sign)
		expect(t, part(of(a), of(b)), "$a"+sign+" | $b"+sign)
		expect(t, row(a, of(row(b, c))), "$a ($b $c)"+sign)
		for j, other := range signs {
			expect(t, of(node(10+j, a)), "($a"+other+")"+sign)
			expect(t, of(node(10+j, of(anyOne))), "((."+sign+")"+other+")"+sign)
			expect(t, of(node(10+j, part(a, b))), "(($a | $b)"+other+")"+sign)
			expect(t, of(row(node(10+j, a), b)), "($a"+other+" $b)"+sign)
		}
		refuse(t, of(api.Node{}))
		refuse(t, node(10+i))
		refuse(t, node(10+i, a, b))
		refuse(t, node(10+i, a, b, c))
	}
	for _, kind := range []int{8, 9} {
		refuse(t, node(kind))
		refuse(t, node(kind, a))
		refuse(t, node(kind, node(kind, a)))
		refuse(t, node(kind, a, api.Node{}))
		refuse(t, node(kind, a, node(kind, a)))
	}
}

// P7.1: of each kind, in a form and in a set, a field that must be empty and isn't.
func TestFieldsThatMustBeEmpty(t *testing.T) {
	a, b, x := name("a"), name("b"), one('x')
	nodes := []api.Node{none, a, anyOne, set(0, x), set(1), x, node(6, x, x), node(7, a, x), node(8, a, b), node(9, a, b), node(10, a), node(11, a), node(12, a)}
	for _, n := range nodes {
		var broken []api.Node
		for _, s := range []string{"a", " ", "0"} {
			if n.Kind != 2 {
				broken = append(broken, n)
				broken[len(broken)-1].Name = s
			}
		}
		for _, c := range []int{1, -1, 'x', math.MinInt, math.MaxInt} {
			if n.Kind != 4 && n.Kind != 5 {
				broken = append(broken, n)
				broken[len(broken)-1].Low = c
			}
			if n.Kind != 5 {
				broken = append(broken, n)
				broken[len(broken)-1].High = c
			}
		}
		if slices.Contains([]int{1, 2, 3, 5}, n.Kind) {
			for _, kids := range [][]api.Node{{a}, {x}, {{}}, {a, b}} {
				broken = append(broken, n)
				broken[len(broken)-1].Kids = kids
			}
		}
		inSet := slices.Contains([]int{2, 4, 5, 6, 7}, n.Kind)
		inForm := !slices.Contains([]int{5, 6, 7}, n.Kind)
		if ink.Right(n) != inForm || ink.Right(set(0, n)) != inSet {
			t.Error(show(n))
		}
		for _, n := range broken {
			refuse(t, n)
			refuse(t, set(0, n))
			refuse(t, set(1, b, n))
			refuse(t, node(10, n))
			refuse(t, node(8, a, n))
			refuse(t, set(0, node(6, n, x)))
			refuse(t, set(0, node(7, b, n)))
		}
	}
}

// chain: a node within so many others.
func chain(many int, n api.Node) api.Node {
	for range many {
		n = node(11, n)
	}
	return n
}

// wide: a form that has so many nodes.
func wide(many int) api.Node {
	return node(9, slices.Repeat([]api.Node{anyOne}, many-1)...)
}

// deepSet: sets within one another, so deep.
func deepSet(deep int) api.Node {
	n := set(0)
	for range deep - 1 {
		n = set(1, n)
	}
	return n
}

// P7.1: 500 nodes and 501, 100 deep and 101, of several kinds.
func TestSizeAndDepth(t *testing.T) {
	less := name("a")
	for range 249 {
		less = node(7, less, name("b"))
	}
	pairs := slices.Repeat([]api.Node{node(6, one('x'), one('y'))}, 166)
	for i, n := range []api.Node{
		wide(500),
		set(0, slices.Repeat([]api.Node{one('x')}, 499)...),
		node(8, wide(250), wide(249)),
		chain(98, wide(402)),
		set(0, append(slices.Clone(pairs), one('z'))...),
		node(8, slices.Repeat([]api.Node{node(10, node(10, anyOne))}, 166)...),
		chain(99, anyOne),
		deepSet(100),
		node(8, anyOne, chain(98, anyOne)),
		node(9, chain(98, none), chain(98, anyOne), node(8, none, none)),
		chain(97, set(0, node(6, one('x'), name("a")))),
	} {
		if e := check(t, n); e != api.OK {
			t.Error(i, e)
		}
	}
	for _, n := range []api.Node{
		wide(501), wide(502), wide(100000), wide(200000),
		set(0, slices.Repeat([]api.Node{one('x')}, 500)...),
		node(8, wide(250), wide(250)),
		chain(98, wide(403)),
		set(0, append(slices.Clone(pairs), one('z'), one('z'))...),
		node(8, append(slices.Repeat([]api.Node{node(10, node(10, anyOne))}, 166), none, none)...),
		chain(100, anyOne), chain(101, anyOne), chain(200, anyOne),
		deepSet(101), deepSet(200),
		node(8, anyOne, chain(99, anyOne)),
		node(8, chain(99, anyOne), anyOne),
		node(9, chain(98, none), chain(99, anyOne), node(8, none, none)),
		chain(98, set(0, node(6, one('x'), name("a")))),
		set(0, less),
	} {
		if s, e := ink.Form(n); s != "" || e != api.ErrArg || ink.Right(n) {
			t.Errorf("%.20q %d", s, e)
		}
		if may(n) {
			t.Error("the test's own words")
		}
	}
	// Each side of a rule has its own nodes.
	big := api.Item{Kind: 2, Before: wide(500), After: set(0)}
	if !ink.May(big) {
		t.Error("500 nodes ahead")
	}
	big.Before, big.After = none, wide(500)
	if !ink.May(big) {
		t.Error("500 nodes behind")
	}
	big.After = wide(501)
	if ink.May(big) {
		t.Error("501 nodes behind")
	}
}

// P7.1: Kids that are shared many times over, which no one could write out.
func TestSharedKids(t *testing.T) {
	twice := anyOne
	for range 8 {
		twice = node(8, twice, twice)
	}
	// 511 nodes of 9 lists.
	refuse(t, twice)
	refuse(t, node(10, twice))
	huge := twice
	for range 190 {
		huge = node(8, huge, huge)
	}
	x := api.Item{Kind: 1, Name: "a", Before: huge}
	if s, e := ink.Form(huge); s != "" || e != api.ErrArg || ink.Right(huge) || ink.May(x) {
		t.Errorf("%q %d", s, e)
	}
	kids := slices.Repeat([]api.Node{name("a")}, 3)
	expect(t, node(9, node(8, kids...), node(8, kids[:2]...)), "$a $a $a | $a $a")
}

// P7.1: texts of 3000 bytes and of 3001.
func TestLongForms(t *testing.T) {
	letters := strings.Repeat("b", 16)
	sized := func(bytes int) api.Node {
		// 400 Kids and 399 blanks are 799 bytes of $ and blanks; the others are the names'.
		var kids []api.Node
		left := bytes - 799
		for i := range 400 {
			n := min(16, left-(399-i))
			kids = append(kids, name(letters[:n]))
			left -= n
		}
		return node(8, kids...)
	}
	for _, many := range []int{2998, 2999, 3000} {
		n := sized(many)
		if s, e := ink.Form(n); len(s) != many || e != api.OK || !ink.Right(n) {
			t.Error(many, len(s), e)
		}
		check(t, n)
	}
	for _, many := range []int{3001, 3002, 5000, 7199} {
		n := sized(many)
		if s, e := ink.Form(n); s != "" || e != api.ErrLong || !ink.Right(n) {
			t.Error(many, len(s), e)
		}
		check(t, n)
	}
	if e := check(t, set(0, slices.Repeat([]api.Node{reach(0xd800, 0x10ffff)}, 498)...)); e != api.ErrLong {
		t.Error(e)
	}
	// What may not be is told ahead of what is too long.
	n := sized(3001)
	n.Kids[399].Name = "0"
	refuse(t, n)
	// A form that may be has its item, too, however long it is.
	if x := (api.Item{Kind: 1, Name: "a", Before: sized(3001)}); !ink.May(x) {
		t.Error("an item of a long form")
	}
}

// P7.1: of items too, a × and a ÷ are two bytes each, a line's end one.
func TestLongItems(t *testing.T) {
	line := api.Item{Kind: 2, Number: 1000, Before: none, After: none}
	// "1 () × ()" and its end are 11 bytes.
	for _, cut := range []bool{false, true} {
		line.Cut = cut
		l := slices.Repeat([]api.Item{line}, 99)
		for _, more := range []int{0, 1, 16} {
			filler := func(bytes int) api.Item {
				// "1 () × $b $b .. $b..b" and its end: 11 bytes without the last form.
				kids := slices.Repeat([]api.Node{name("b")}, 400)
				left := bytes - 9 - 400*3 + 1
				for i := range kids {
					n := min(15, left)
					kids[i].Name += strings.Repeat("c", n)
					left -= n
				}
				x := line
				x.After = node(8, kids...)
				return x
			}
			full := append(slices.Clone(l), filler(3000-99*11+more))
			s, e := ink.Items(full)
			if more == 0 {
				if e != api.OK || len(s) != 3000 {
					t.Error(len(s), e)
				}
				checkItems(t, full)
			} else if s != "" || e != api.ErrLong {
				t.Error(more, len(s), e)
			}
			for _, x := range full {
				if !ink.May(x) {
					t.Error("may be, however long all are")
				}
			}
			full[0].Name = "a"
			if s, e := ink.Items(full); s != "" || e != api.ErrArg {
				t.Error(len(s), e)
			}
		}
	}
}

// P7.1: items of each kind, with numbers and without.
func TestItems(t *testing.T) {
	a, s := name("a"), set(0, one('x'))
	for _, x := range []struct {
		item api.Item
		want string
	}{
		{api.Item{Kind: 1, Name: "a", Before: none}, "$a = ()"},
		{api.Item{Kind: 1, Name: "b_2", Before: s}, "$b_2 = [x]"},
		{api.Item{Kind: 1, Name: "a", Before: node(9, a, none)}, "$a = $a | ()"},
		{api.Item{Kind: 1, Name: "abcdefghijklmnop", Before: node(8, a, a)}, "$abcdefghijklmnop = $a $a"},
		{api.Item{Kind: 2, Before: none, After: none}, "0 () \u00d7 ()"},
		{api.Item{Kind: 2, Number: 3000, Before: a, After: none}, "3 $a \u00d7 ()"},
		{api.Item{Kind: 2, Number: 999999, Cut: true, Before: anyOne, After: s}, "999.999 . \u00f7 [x]"},
		{api.Item{Kind: 2, Number: 1, Cut: true, Before: node(9, a, s), After: node(8, a, s)}, "0.001 $a | [x] \u00f7 $a [x]"},
		{api.Item{Kind: 2, Number: 12050, Before: node(10, anyOne), After: node(12, none)}, "12.05 .* \u00d7 ()?"},
		{api.Item{Kind: 3, Name: "dead"}, "#allow dead 0"},
		{api.Item{Kind: 3, Name: "dead", Number: -1}, "#allow dead"},
		{api.Item{Kind: 3, Name: "a", Number: 999999}, "#allow a 999.999"},
		{api.Item{Kind: 3, Name: "abcdefghijklmnop", Number: 12500}, "#allow abcdefghijklmnop 12.5"},
		{api.Item{Kind: 3, Name: "zz", Number: 1}, "#allow zz 0.001"},
	} {
		for _, pos := range []int{0, 5, -1, math.MaxInt, math.MinInt} {
			item := x.item
			item.Pos = pos
			if !ink.May(item) {
				t.Errorf("%q may be", x.want)
			}
			for _, l := range [][]api.Item{{item}, {item, item}} {
				if got, e := ink.Items(l); got != strings.Repeat(x.want+"\n", len(l)) || e != api.OK {
					t.Errorf("%q %d, not %q", got, e, x.want)
				}
				checkItems(t, l)
			}
		}
	}
}

// P7.1: items that are wrong in one thing alone.
func TestWrongItems(t *testing.T) {
	a := name("a")
	parts := []api.Node{none, a, {Kind: 13}, {Name: "a"}, {Low: 1}, {High: 1}, {Low: -1}, {Kids: []api.Node{a}}, {Kids: []api.Node{{}}}}
	givesName := api.Item{Kind: 1, Name: "a", Before: a}
	rule := api.Item{Kind: 2, Number: 3000, Before: a, After: a}
	allow := api.Item{Kind: 3, Name: "dead", Number: 3000}
	for _, x := range []api.Item{givesName, rule, allow} {
		if !ink.May(x) {
			t.Error(showAll([]api.Item{x}))
		}
	}
	changed := func(x api.Item, change func(*api.Item)) api.Item {
		change(&x)
		return x
	}
	for _, kind := range []int{0, 4, -1, math.MinInt, math.MaxInt} {
		refuseItem(t, api.Item{Kind: kind})
		for _, x := range []api.Item{givesName, rule, allow} {
			refuseItem(t, changed(x, func(x *api.Item) { x.Kind = kind }))
		}
	}
	for _, x := range []api.Item{givesName, rule, allow} {
		for _, kind := range []int{1, 2, 3} {
			if kind != x.Kind {
				refuseItem(t, changed(x, func(x *api.Item) { x.Kind = kind }))
			}
		}
	}
	for _, n := range []int{1, -1, 3000, 999999, math.MinInt, math.MaxInt} {
		refuseItem(t, changed(givesName, func(x *api.Item) { x.Number = n }))
	}
	for _, n := range []int{-1, -2, 1000000, math.MinInt, math.MaxInt} {
		refuseItem(t, changed(rule, func(x *api.Item) { x.Number = n }))
		if n != -1 {
			refuseItem(t, changed(allow, func(x *api.Item) { x.Number = n }))
		}
	}
	refuseItem(t, changed(givesName, func(x *api.Item) { x.Cut = true }))
	refuseItem(t, changed(allow, func(x *api.Item) { x.Cut = true }))
	for _, s := range []string{"a", "dead", " ", "0", "\xff"} {
		refuseItem(t, changed(rule, func(x *api.Item) { x.Name = s }))
	}
	for _, s := range []string{"", "A", "deaD", "dead1", "a_b", "a b", "dead ", " dead", "dead\n", "\u00e4", "a\xff", "`", "{", "abcdefghijklmnopq"} {
		refuseItem(t, changed(allow, func(x *api.Item) { x.Name = s }))
	}
	for _, n := range parts {
		refuseItem(t, changed(givesName, func(x *api.Item) { x.After = n }))
		refuseItem(t, changed(allow, func(x *api.Item) { x.Before = n }))
		refuseItem(t, changed(allow, func(x *api.Item) { x.After = n }))
	}
	for _, n := range append(parts[2:], api.Node{}) {
		refuseItem(t, changed(givesName, func(x *api.Item) { x.Before = n }))
		refuseItem(t, changed(rule, func(x *api.Item) { x.Before = n }))
		refuseItem(t, changed(rule, func(x *api.Item) { x.After = n }))
	}
	hollow := api.Node{Kids: []api.Node{}}
	if !ink.May(changed(givesName, func(x *api.Item) { x.After = hollow })) || !ink.May(changed(allow, func(x *api.Item) { x.Before, x.After = hollow, hollow })) {
		t.Error("a list that holds nothing may be nil or empty")
	}
}

// P7.1: no item, 100 items, 101.
func TestHowManyItems(t *testing.T) {
	for _, l := range [][]api.Item{nil, {}} {
		if s, e := ink.Items(l); s != "" || e != api.OK {
			t.Errorf("%q %d", s, e)
		}
	}
	x := api.Item{Kind: 3, Name: "a", Number: -1}
	for _, many := range []int{1, 2, 99, 100} {
		l := slices.Repeat([]api.Item{x}, many)
		if s, e := ink.Items(l); s != strings.Repeat("#allow a\n", many) || e != api.OK {
			t.Errorf("%q %d", s, e)
		}
		checkItems(t, l)
		for _, i := range []int{0, many / 2, many - 1} {
			wrong := slices.Clone(l)
			wrong[i].Cut = true
			if s, e := ink.Items(wrong); s != "" || e != api.ErrArg {
				t.Errorf("%q %d", s, e)
			}
		}
	}
	for _, many := range []int{101, 102, 1000} {
		if s, e := ink.Items(slices.Repeat([]api.Item{x}, many)); s != "" || e != api.ErrArg {
			t.Errorf("%q %d", s, e)
		}
	}
	// Too many are told as such, even where they would be too long.
	long := api.Item{Kind: 1, Name: "a", Before: wide(500)}
	if _, e := ink.Items([]api.Item{long, long}); e != api.ErrLong {
		t.Error(e)
	}
	if _, e := ink.Items(slices.Repeat([]api.Item{long}, 101)); e != api.ErrArg {
		t.Error(e)
	}
}

// shapes: all trees of so many nodes, without kinds.
func shapes(many int) []api.Node {
	var all []api.Node
	for _, kids := range rows(many - 1) {
		all = append(all, api.Node{Kids: kids})
	}
	return all
}

// rows: all lists of trees that have so many nodes in all.
func rows(many int) [][]api.Node {
	if many == 0 {
		return [][]api.Node{nil}
	}
	var all [][]api.Node
	for first := 1; first <= many; first++ {
		for _, head := range shapes(first) {
			for _, tail := range rows(many - first) {
				all = append(all, append([]api.Node{head}, tail...))
			}
		}
	}
	return all
}

// nodesOf: all nodes of a form, to be changed.
func nodesOf(n *api.Node) []*api.Node {
	all := []*api.Node{n}
	for i := range n.Kids {
		all = append(all, nodesOf(&n.Kids[i])...)
	}
	return all
}

// copied: a form, of its own memory.
func copied(n api.Node) api.Node {
	n.Kids = slices.Clone(n.Kids)
	for i := range n.Kids {
		n.Kids[i] = copied(n.Kids[i])
	}
	return n
}

// P7.1, P7.2: all trees of at most four nodes, of all kinds, in forms and in sets.
func TestAllSmallForms(t *testing.T) {
	kinds := []api.Node{{Kind: 1}, {Kind: 2, Name: "a"}, {Kind: 3}, {Kind: 4}, {Kind: 4, Low: 1}, {Kind: 5, Low: 'x', High: 'x'}, {Kind: 5, Low: 'b', High: 'd'}, {Kind: 6}, {Kind: 7}, {Kind: 8}, {Kind: 9}, {Kind: 10}, {Kind: 12}}
	met := map[api.Errno]int{}
	for many := 1; many <= 4; many++ {
		for _, shape := range shapes(many) {
			n := copied(shape)
			all := nodesOf(&n)
			var fill func(at int)
			fill = func(at int) {
				if at == len(all) {
					met[check(t, n)]++
					met[check(t, set(1, n))]++
					return
				}
				for _, k := range kinds {
					k.Kids = all[at].Kids
					*all[at] = k
					fill(at + 1)
				}
			}
			fill(0)
		}
	}
	if met[api.OK] < 2000 || met[api.ErrArg] < 100000 {
		t.Error(met)
	}
}

// maker makes forms, and what is wrong with them, that hang on its seed alone.
type maker struct {
	seed uint32
}

func (m *maker) next(n int) int {
	m.seed = m.seed*1664525 + 1013904223
	return int(m.seed>>8) % n
}

// char: most of them written as themselves.
func (m *maker) char() int {
	switch m.next(4) {
	case 0:
		return m.next(128)
	case 1:
		return m.next(0x110000)
	}
	return int(nameLetters[m.next(52)])
}

func (m *maker) name() string {
	s := nameLetters[m.next(52):][:1]
	for range m.next(16) {
		s += (nameLetters + "0123456789_")[m.next(63):][:1]
	}
	return s
}

// member: a part of a set that no & and - stands in.
func (m *maker) member(deep int) api.Node {
	switch m.next(4) {
	case 0:
		return name(m.name())
	case 1:
		if deep > 0 {
			return m.set(deep - 1)
		}
	}
	c, d := m.char(), m.char()
	if m.next(2) == 0 {
		d = c
	}
	return reach(min(c, d), max(c, d))
}

func (m *maker) set(deep int) api.Node {
	s := set(m.next(2))
	for range m.next(4) {
		n := m.member(deep)
		for range m.next(3) {
			kind := 6
			end := n
			if n.Kind == 6 || n.Kind == 7 {
				end = n.Kids[1]
			}
			if end.Kind != 5 {
				kind += m.next(2)
			}
			n = node(kind, n, m.member(deep))
		}
		s.Kids = append(s.Kids, n)
	}
	return s
}

// leaf: a form that no other one stands in.
func (m *maker) leaf() api.Node {
	switch m.next(4) {
	case 0:
		return none
	case 1:
		return anyOne
	case 2:
		return m.set(m.next(4))
	}
	return name(m.name())
}

// form: one that may be written, unless it has too many nodes; the more room, the greater.
func (m *maker) form(room int) api.Node {
	if room <= 1 || m.next(6+room) == 0 {
		return m.leaf()
	}
	if m.next(3) == 0 {
		return node(10+m.next(3), m.form(room-1))
	}
	n := node(8 + m.next(2))
	for room > 1 {
		part := 1 + m.next(room)
		n.Kids = append(n.Kids, m.form(part-1))
		room -= part
	}
	return node(n.Kind, append(n.Kids, m.leaf(), m.form(room-1))...)
}

// spoil: one thing of one node, changed.
func (m *maker) spoil(n api.Node) api.Node {
	n = copied(n)
	all := nodesOf(&n)
	x := all[m.next(len(all))]
	switch m.next(6) {
	case 0:
		x.Kind = m.next(15) - 1
	case 1:
		x.Name = []string{"", "a", "0", "a-", "abcdefghijklmnopq"}[m.next(5)]
	case 2:
		x.Low = []int{0, 1, 2, -1, 0x10ffff, 0x110000}[m.next(6)]
	case 3:
		x.High = []int{0, 1, -1, 0x10ffff, 0x110000}[m.next(5)]
	case 4:
		if len(x.Kids) > 0 {
			x.Kids = x.Kids[1:]
		}
	case 5:
		x.Kids = append(x.Kids, []api.Node{anyOne, name("a"), one('x'), node(7, name("a"), one('x'))}[m.next(4)])
	}
	return n
}

// P7.1, P7.2: many forms, and such as are wrong in one thing.
func TestManyForms(t *testing.T) {
	met := map[api.Errno]int{}
	tooDeep := 0
	for seed := range uint32(10000) {
		m := maker{seed}
		n := m.form(m.next([]int{2, 10, 40, 300}[m.next(4)]))
		met[check(t, n)]++
		if s, _ := ink.Form(n); brackets(s) > 12 {
			tooDeep++
		}
		for range 3 {
			met[check(t, m.spoil(n))]++
		}
	}
	if met[api.OK] < 8000 || met[api.ErrArg] < 8000 || tooDeep < 10 {
		t.Error(met, tooDeep)
	}
}

// item: one that may be written, nearly always.
func (m *maker) item() api.Item {
	number := []int{0, 1, 999999, 1000 * m.next(1000), 100 * m.next(10000), m.next(1000000)}[m.next(6)]
	switch m.next(3) {
	case 0:
		return api.Item{Kind: 1, Name: m.name(), Before: m.form(m.next(20)), Pos: m.next(3000)}
	case 1:
		return api.Item{Kind: 2, Number: number, Cut: m.next(2) == 0, Before: m.form(m.next(20)), After: m.form(m.next(20)), Pos: m.next(3000)}
	}
	s := strings.ToLower(nameLetters[m.next(36):][:1+m.next(16)])
	if m.next(3) == 0 {
		number = -1
	}
	return api.Item{Kind: 3, Name: s, Number: number, Pos: m.next(3000)}
}

// P7.2: many lists of items, written and read.
func TestManyItems(t *testing.T) {
	right := 0
	for seed := range uint32(5000) {
		m := maker{seed}
		var l []api.Item
		for range m.next(12) {
			l = append(l, m.item())
		}
		s, e := ink.Items(l)
		if !slices.ContainsFunc(l, func(x api.Item) bool { return !ink.May(x) }) && e == api.ErrArg {
			t.Fatal(showAll(l))
		}
		if e != api.OK {
			continue
		}
		if strings.Count(s, "\n") != len(l) {
			t.Fatalf("%q", s)
		}
		checkItems(t, l)
		right++
	}
	if right < 3000 {
		t.Error(right)
	}
}

// P7.2: what is read, written and read once more.
func TestReadAndWritten(t *testing.T) {
	texts := map[string]string{
		"":                                "",
		"\n # note\n":                     "",
		"3 $a\u00f7":                      "3 $a \u00f7 ()\n",
		"3.10\u00d7":                      "3.1 () \u00d7 ()\n",
		"  $a=($b)":                       "$a = $b\n",
		"$a=(((.)))*":                     "$a = .*\n",
		"$a=|\n\n$b=(|)|":                 "$a = () | ()\n$b = (() | ()) | ()\n",
		"$a=[\\n\\t\\-\\u{0041}-\\u{7A}]": "$a = [\\u{a} \\u{9} \\u{2d} A-z]\n",
		"$a=[*+ \u00d7-\u00f7]":           "$a = [\\u{2a} \\u{2b} \\u{d7}-\\u{f7}]\n",
		"$a=[^\\^]":                       "$a = [^\\u{5e}]\n",
		"$a=[[x]-y&$b-z-z]":               "$a = [[x]-y&$b-z]\n",
		"$a=[$b - c-d & [^e f]]":          "$a = [$b-c-d&[^e f]]\n",
		"#allow dead":                     "#allow dead\n",
		"#allow dead 0\n#allow a 3.20":    "#allow dead 0\n#allow a 3.2\n",
		"1 ($a*)+ ($b $c)? \u00d7 ($a|.)($b) # note": "1 ($a*)+ ($b $c)? \u00d7 ($a | .) $b\n",
		"2 ($a $b)|($c|$d) \u00f7 ()":                "2 $a $b | ($c | $d) \u00f7 ()\n",
		"$a = ((((((((((($b|.)*)*)*)*)*)*)*)*)*)*)*": "$a = ((((((((((($b | .)*)*)*)*)*)*)*)*)*)*)*\n",
	}
	for text, want := range texts {
		l, _, e := expr.Of([]byte(text))
		if e != api.OK {
			t.Errorf("%q: %d", text, e)
		}
		if s, e := ink.Items(l); s != want || e != api.OK {
			t.Errorf("%q: %q %d, not %q", text, s, e, want)
		}
		checkItems(t, l)
	}
	read := 0
	for seed := range uint32(60000) {
		m := maker{seed}
		parts := []string{"$a", "$b", "$c_2 ", ".", "(", "(", ")", ")", "|", "*", "+", "?", "[", "[^", "]", "x", "y-z", "&", "-", " ", "\\n", "\\u{2D}"}
		text := ""
		for range 1 + m.next(10) {
			text += parts[m.next(len(parts))]
		}
		for _, line := range []string{"$a=" + text, "3.50 " + text + "\u00d7", "4 . \u00f7" + text} {
			l, _, e := expr.Of([]byte(line))
			if e != api.OK {
				continue
			}
			for _, x := range l {
				if !ink.May(x) {
					t.Fatalf("%q: what is read may be written", line)
				}
			}
			checkItems(t, l)
			read++
		}
	}
	if read < 5000 {
		t.Error(read)
	}
}

// P7.2: what is written deeper than layer 6 reads is just what may not be read; up to there it is.
func TestTooDeepToRead(t *testing.T) {
	for deep := 1; deep <= 100; deep++ {
		for _, n := range []api.Node{deepSet(deep), chain(deep-1, none), chain(deep-1, anyOne)} {
			if e := check(t, n); e != api.OK {
				t.Error(deep, e)
			}
		}
	}
	if s, e := ink.Form(deepSet(12)); s != strings.Repeat("[^", 11)+"[]"+strings.Repeat("]", 11) || e != api.OK {
		t.Error(s, e)
	}
}

// wipe: all that a form's lists hold, their spare room too.
func wipe(n api.Node) {
	room := n.Kids[:cap(n.Kids)]
	for i := range room {
		if i < len(n.Kids) {
			wipe(room[i])
		}
		room[i] = api.Node{Kind: -7}
	}
}

// What is handed in isn't changed, its spare room neither, and an answer stays as it was.
func TestWhatIsHandedInStays(t *testing.T) {
	room := []api.Node{name("a"), set(1, node(7, node(6, one('x'), name("b")), reach('c', 'd'))), node(10, node(9, none, anyOne)), name("spare")}
	n := api.Node{Kind: 8, Kids: room[:3]}
	items := []api.Item{{Kind: 1, Name: "n", Before: n, Pos: 3}, {Kind: 2, Number: 7, Before: n, After: n, Pos: 9}, {Kind: 3, Name: "dead"}, {Kind: 1, Name: "spare"}}
	l := items[:3]
	shown, shownAll := show(api.Node{Kind: 8, Kids: room}), showAll(items)
	s, e := ink.Form(n)
	all, e2 := ink.Items(l)
	if e != api.OK || e2 != api.OK || !ink.Right(n) || !ink.May(l[1]) {
		t.Fatal(e, e2)
	}
	if show(api.Node{Kind: 8, Kids: room}) != shown || showAll(items) != shownAll {
		t.Error("an argument changed")
	}
	const want = "$a [^x&$b-c-d] (() | .)*"
	wipe(n)
	clear(items)
	if s != want || all != "$n = "+want+"\n0.007 "+want+" \u00d7 "+want+"\n#allow dead 0\n" {
		t.Errorf("%q %q", s, all)
	}
}
