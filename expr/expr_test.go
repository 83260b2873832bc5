package expr_test

import (
	"fmt"
	"math"
	"slices"
	"strings"
	"testing"

	"caesura/api"
	"caesura/expr"
	"caesura/word"
)

// node, name, reach, set: nodes, written down.
func node(kind int, kids ...api.Node) api.Node { return api.Node{Kind: kind, Kids: kids} }

func name(s string) api.Node { return api.Node{Kind: 2, Name: s} }

func reach(low, high int) api.Node { return api.Node{Kind: 5, Low: low, High: high} }

func set(low int, kids ...api.Node) api.Node { return api.Node{Kind: 4, Low: low, Kids: kids} }

// show: a form with all that is in it, as a text.
func show(n api.Node) string {
	var kids []string
	for _, k := range n.Kids {
		kids = append(kids, show(k))
	}
	return fmt.Sprintf("%d %q %d %d (%s)", n.Kind, n.Name, n.Low, n.High, strings.Join(kids, ", "))
}

// showAll: items with all that is in them, a line each.
func showAll(l []api.Item) string {
	var s strings.Builder
	for _, x := range l {
		fmt.Fprintf(&s, "%d %q %d %v {%s} {%s} at %d\n", x.Kind, x.Name, x.Number, x.Cut, show(x.Before), show(x.After), x.Pos)
	}
	return s.String()
}

// machine: the words of the document for where tokens are wrong, told by what may stand behind what, and by a stack of what is open.
type machine struct {
	lines bool   // items, or one form?
	phase int    // of a line: 0 its beginning, 1 behind a name, 2 its last form, 3 a rule's first form, 4 behind an #allow
	stack []byte // ( and [ that are open
	last  int    // the kind of the token ahead, within a form
	items int
}

// may: may a token stand there, in a form?
func (m *machine) may(kind int) bool {
	top := byte(0)
	if len(m.stack) > 0 {
		top = m.stack[len(m.stack)-1]
	}
	if top == '[' {
		switch kind {
		case 1, 13, 15:
			return true
		case 14:
			return m.last != 16 && m.last != 17
		case 16, 17:
			return slices.Contains([]int{1, 14, 15}, m.last)
		}
		return false
	}
	switch kind {
	case 1, 6, 8, 12, 13:
		return true
	case 7:
		return top == '('
	case 9, 10, 11:
		return slices.Contains([]int{1, 7, 12, 14}, m.last)
	}
	return false
}

// inForm: a token in a form.
func (m *machine) inForm(kind int) api.Errno {
	if !m.may(kind) {
		return api.ErrSign
	}
	switch kind {
	case 6, 13:
		if len(m.stack) == 12 {
			return api.ErrDeep
		}
		m.stack = append(m.stack, map[int]byte{6: '(', 13: '['}[kind])
	case 7, 14:
		m.stack = m.stack[:len(m.stack)-1]
	}
	m.last = kind
	return api.OK
}

// step: a token.
func (m *machine) step(kind int) api.Errno {
	switch {
	case m.lines && kind == 18:
		if !m.done() {
			return api.ErrSign
		}
		m.phase, m.last = 0, 0
	case m.phase == 0:
		next, right := map[int]int{1: 1, 2: 3, 19: 4}[kind]
		if m.items == 100 {
			return api.ErrMany
		}
		if !right {
			return api.ErrSign
		}
		m.phase = next
		m.items++
	case m.phase == 1 && kind == 3:
		m.phase = 2
	case m.phase == 3 && len(m.stack) == 0 && (kind == 4 || kind == 5):
		m.phase, m.last = 2, 0
	case m.phase == 2 || m.phase == 3:
		return m.inForm(kind)
	default:
		return api.ErrSign
	}
	return api.OK
}

// done: may tokens, or a line, end there?
func (m *machine) done() bool {
	return len(m.stack) == 0 && m.phase != 1 && m.phase != 3
}

// wrongOf: where tokens are wrong, and why.
func (m machine) wrongOf(l []api.Token, end int) (int, api.Errno) {
	for _, t := range l {
		if e := m.step(t.Kind); e != api.OK {
			return t.Pos, e
		}
	}
	if !m.done() {
		return end, api.ErrEnd
	}
	return -1, api.OK
}

// one: how many tokens the first part of right tokens has, up to its end where it is bracketed.
func one(l []api.Token) int {
	open := 0
	for i, t := range l {
		switch t.Kind {
		case 6, 13:
			open++
		case 7, 14:
			open--
		}
		if open == 0 {
			return i + 1
		}
	}
	panic("no end")
}

// parted: what is between tokens of some kinds, brackets and sets left whole.
func parted(l []api.Token, kinds ...int) [][]api.Token {
	all := [][]api.Token{nil}
	for len(l) > 0 {
		n := one(l)
		if slices.Contains(kinds, l[0].Kind) {
			all = append(all, nil)
		} else {
			all[len(all)-1] = append(all[len(all)-1], l[:n]...)
		}
		l = l[n:]
	}
	return all
}

// formOf: the words of the document for a form, of right tokens.
func formOf(l []api.Token) api.Node {
	var forms []api.Node
	for _, part := range parted(l, 8) {
		forms = append(forms, joinOf(part))
	}
	if len(forms) == 1 {
		return forms[0]
	}
	return node(9, forms...)
}

// joinOf: pieces one behind the other.
func joinOf(l []api.Token) api.Node {
	var pieces []api.Node
	for len(l) > 0 {
		n := one(l)
		switch l[0].Kind {
		case 9, 10, 11:
			last := &pieces[len(pieces)-1]
			*last = node(l[0].Kind+1, *last)
		case 6:
			pieces = append(pieces, formOf(l[1:n-1]))
		default:
			pieces = append(pieces, partOf(l[:n]))
		}
		l = l[n:]
	}
	switch len(pieces) {
	case 0:
		return node(1)
	case 1:
		return pieces[0]
	}
	return node(8, pieces...)
}

// partOf: a token alone, or a set.
func partOf(l []api.Token) api.Node {
	switch l[0].Kind {
	case 1:
		return name(l[0].Text)
	case 12:
		return node(3)
	case 15:
		return reach(l[0].Low, l[0].High)
	}
	s := set(l[0].Low)
	for in := l[1 : len(l)-1]; len(in) > 0; {
		if kind := in[0].Kind; kind == 16 || kind == 17 {
			n := 1 + one(in[1:])
			last := &s.Kids[len(s.Kids)-1]
			*last = node(kind-10, *last, partOf(in[1:n]))
			in = in[n:]
			continue
		}
		n := one(in)
		s.Kids = append(s.Kids, partOf(in[:n]))
		in = in[n:]
	}
	return s
}

// itemsOf: the words of the document for items, of right tokens.
func itemsOf(l []api.Token) []api.Item {
	var items []api.Item
	for _, line := range parted(l, 18) {
		if len(line) == 0 {
			continue
		}
		t := line[0]
		x := api.Item{Pos: t.Pos}
		switch t.Kind {
		case 1:
			x.Kind, x.Name, x.Before = 1, t.Text, formOf(line[2:])
		case 2:
			sides := parted(line[1:], 4, 5)
			cut := slices.ContainsFunc(line, func(t api.Token) bool { return t.Kind == 5 })
			x.Kind, x.Number, x.Cut, x.Before, x.After = 2, t.Low, cut, formOf(sides[0]), formOf(sides[1])
		case 19:
			x.Kind, x.Name, x.Number = 3, t.Text, t.Low
		}
		items = append(items, x)
	}
	return items
}

// checkForm: Form of tokens against the words of the document; the error it answers.
func checkForm(t *testing.T, l []api.Token, end int) api.Errno {
	t.Helper()
	want := api.Node{}
	wantAt, wantE := machine{phase: 2}.wrongOf(l, end)
	if wantE == api.OK {
		want = formOf(l)
	}
	n, at, e := expr.Form(l, end)
	if show(n) != show(want) || at != wantAt || e != wantE {
		t.Fatalf("%v, %d: %s %d %d, not %s %d %d", l, end, show(n), at, e, show(want), wantAt, wantE)
	}
	if e == api.OK && (!expr.Same(n, want) || expr.Size(n) != strings.Count(show(n), "(")) {
		t.Fatalf("%v: same, size %d", l, expr.Size(n))
	}
	return e
}

// check: Of of a text against the words of the document; the error it answers.
func check(t *testing.T, s string) api.Errno {
	t.Helper()
	var want []api.Item
	l, wantAt, wantE := word.Of([]byte(s))
	if wantE == api.OK {
		wantAt, wantE = machine{lines: true}.wrongOf(l, len(s))
		if wantE == api.OK {
			want = itemsOf(l)
		}
	}
	items, at, e := expr.Of([]byte(s))
	if showAll(items) != showAll(want) || at != wantAt || e != wantE {
		t.Fatalf("%q: %s%d %d, not %s%d %d", s, showAll(items), at, e, showAll(want), wantAt, wantE)
	}
	return e
}

// expect: Of of a text, with its items written down; and the test's own words of the document alike.
func expect(t *testing.T, s string, want ...api.Item) {
	t.Helper()
	if l, at, e := expr.Of([]byte(s)); showAll(l) != showAll(want) || at != -1 || e != api.OK {
		t.Errorf("%q: %s%d %d, not %s", s, showAll(l), at, e, showAll(want))
	}
	check(t, s)
}

// expectForm: Form of a text's tokens, and the same form in a name's line, round brackets, and on both sides of a rule.
func expectForm(t *testing.T, s string, want api.Node) {
	t.Helper()
	l, _, e := word.Of([]byte(s))
	if n, at, f := expr.Form(l, len(s)); show(n) != show(want) || at != -1 || e != api.OK || f != api.OK {
		t.Errorf("%q: %s %d %d, not %s", s, show(n), at, f, show(want))
	}
	expect(t, "$a="+s, api.Item{Kind: 1, Name: "a", Before: want})
	expect(t, "$a=("+s+")", api.Item{Kind: 1, Name: "a", Before: want})
	expect(t, "$a=("+s+")*", api.Item{Kind: 1, Name: "a", Before: node(10, want)})
	expect(t, "7 "+s+"\u00d7", api.Item{Kind: 2, Number: 7000, Before: want, After: node(1)})
	expect(t, "7.05\u00f7"+s, api.Item{Kind: 2, Number: 7050, Cut: true, Before: node(1), After: want})
	expect(t, "7 "+s+"\u00f7"+s, api.Item{Kind: 2, Number: 7000, Cut: true, Before: want, After: want})
}

// refuse: Of of a text that is wrong at a byte; and the test's own words of the document alike.
func refuse(t *testing.T, s string, wantAt int, want api.Errno) {
	t.Helper()
	if l, at, e := expr.Of([]byte(s)); len(l) != 0 || at != wantAt || e != want {
		t.Errorf("%q: %s%d %d, not %d %d", s, showAll(l), at, e, wantAt, want)
	}
	check(t, s)
}

// P6.1: no byte at all, no token at all; empty lines, notes alone.
func TestNoItems(t *testing.T) {
	for _, none := range [][]byte{nil, {}} {
		if l, at, e := expr.Of(none); len(l) != 0 || at != -1 || e != api.OK {
			t.Error(l, at, e)
		}
	}
	for _, s := range []string{" ", "\t ", "\n", "\n\n\n", " \n\t\n", "# note", "# note\n", "\n# note\n\n#", "#allow", "#allows dead", strings.Repeat("\n", 3000)} {
		expect(t, s)
	}
	for _, none := range [][]api.Token{nil, {}} {
		for _, end := range []int{0, 7, -1, math.MinInt, math.MaxInt} {
			if n, at, e := expr.Form(none, end); show(n) != show(node(1)) || at != -1 || e != api.OK {
				t.Error(show(n), at, e)
			}
		}
	}
}

// P6.1: forms of no piece, of one, of several; forms that are parted; brackets; what stands behind pieces.
func TestForms(t *testing.T) {
	a, b, c, any, none := name("a"), name("b"), name("c"), node(3), node(1)
	expectForm(t, "", none)
	expectForm(t, "$a", a)
	expectForm(t, ".", any)
	expectForm(t, "$a $b", node(8, a, b))
	expectForm(t, "$a.$b$c", node(8, a, any, b, c))
	expectForm(t, "...", node(8, any, any, any))
	expectForm(t, "$a|$b", node(9, a, b))
	expectForm(t, "$a|$b|$c", node(9, a, b, c))
	expectForm(t, "|", node(9, none, none))
	expectForm(t, "||", node(9, none, none, none))
	expectForm(t, "$a|", node(9, a, none))
	expectForm(t, "|$a", node(9, none, a))
	expectForm(t, "$a||$b", node(9, a, none, b))
	expectForm(t, "$a $b|$c", node(9, node(8, a, b), c))
	expectForm(t, "$a|$b $c", node(9, a, node(8, b, c)))
	expectForm(t, "()", none)
	expectForm(t, "(())", none)
	expectForm(t, "()()", node(8, none, none))
	expectForm(t, "()|()", node(9, none, none))
	expectForm(t, "(|)", node(9, none, none))
	expectForm(t, "($a)", a)
	expectForm(t, "((($a)))", a)
	expectForm(t, "($a $b) $c", node(8, node(8, a, b), c))
	expectForm(t, "$a ($b $c)", node(8, a, node(8, b, c)))
	expectForm(t, "($a|$b)|$c", node(9, node(9, a, b), c))
	expectForm(t, "($a|$b)$c", node(8, node(9, a, b), c))
	expectForm(t, "$a ()", node(8, a, none))
	for sign, kind := range map[string]int{"*": 10, "+": 11, "?": 12} {
		expectForm(t, "$a"+sign, node(kind, a))
		expectForm(t, "."+sign, node(kind, any))
		expectForm(t, "()"+sign, node(kind, none))
		expectForm(t, "[]"+sign, node(kind, set(0)))
		expectForm(t, "[^$a]"+sign, node(kind, set(1, a)))
		expectForm(t, "($a $b)"+sign, node(kind, node(8, a, b)))
		expectForm(t, "($a|$b)"+sign, node(kind, node(9, a, b)))
		expectForm(t, "$a $b"+sign, node(8, a, node(kind, b)))
		expectForm(t, "$a"+sign+"$b", node(8, node(kind, a), b))
		expectForm(t, "$a|$b"+sign, node(9, a, node(kind, b)))
		expectForm(t, "($a*)"+sign, node(kind, node(10, a)))
		expectForm(t, "($a "+sign+")*", node(10, node(kind, a)))
		expectForm(t, "(($a)"+sign+"|)", node(9, node(kind, a), none))
	}
}

// P6.1: sets.
func TestSets(t *testing.T) {
	a, b, c := name("a"), name("b"), name("c")
	x, y, z := reach('x', 'x'), reach('y', 'y'), reach('z', 'z')
	expectForm(t, "[]", set(0))
	expectForm(t, "[^]", set(1))
	expectForm(t, "[x]", set(0, x))
	expectForm(t, "[^x-z]", set(1, reach('x', 'z')))
	expectForm(t, "[xyz]", set(0, x, y, z))
	expectForm(t, "[$a]", set(0, a))
	expectForm(t, "[$a $b]", set(0, a, b))
	expectForm(t, "[[]]", set(0, set(0)))
	expectForm(t, "[^[^]]", set(1, set(1)))
	expectForm(t, "[[x][^y]z]", set(0, set(0, x), set(1, y), z))
	expectForm(t, "[x&y]", set(0, node(6, x, y)))
	expectForm(t, "[$a-$b]", set(0, node(7, a, b)))
	expectForm(t, "[$a-x]", set(0, node(7, a, x)))
	expectForm(t, "[[x]-y]", set(0, node(7, set(0, x), y)))
	expectForm(t, "[[x]-[^y]]", set(0, node(7, set(0, x), set(1, y))))
	expectForm(t, "[$a&$b&$c]", set(0, node(6, node(6, a, b), c)))
	expectForm(t, "[$a-$b-$c]", set(0, node(7, node(7, a, b), c)))
	expectForm(t, "[$a&$b-$c]", set(0, node(7, node(6, a, b), c)))
	expectForm(t, "[$a-$b&$c]", set(0, node(6, node(7, a, b), c)))
	expectForm(t, "[x&y&z&$a-$b]", set(0, node(7, node(6, node(6, node(6, x, y), z), a), b)))
	expectForm(t, "[x y&z]", set(0, x, node(6, y, z)))
	expectForm(t, "[x&y z]", set(0, node(6, x, y), z))
	expectForm(t, "[x&y $a-$b z]", set(0, node(6, x, y), node(7, a, b), z))
	expectForm(t, "[$a&[$b-$c]]", set(0, node(6, a, set(0, node(7, b, c)))))
	expectForm(t, "[^x&$a-[y&z]]", set(1, node(7, node(6, x, a), set(0, node(6, y, z)))))
	expectForm(t, "[*+?.()|=\u00d7\u00f7]", set(0, reach('*', '*'), reach('+', '+'), reach('?', '?'), reach('.', '.'), reach('(', '('), reach(')', ')'), reach('|', '|'), reach('=', '='), reach(0xd7, 0xd7), reach(0xf7, 0xf7)))
	expectForm(t, "[\\u{0}-\\u{10ffff}]", set(0, reach(0, api.Top)))
	expectForm(t, "[x][y]", node(8, set(0, x), set(0, y)))
	expectForm(t, "[x]|[^y]*", node(9, set(0, x), node(10, set(1, y))))
}

// P6.1: a token's other fields say nothing of its node; those that do are taken as they are.
func TestOddTokens(t *testing.T) {
	l := []api.Token{
		{Kind: 1, Text: "", Low: 7, High: 8, Pos: 3},
		{Kind: 12, Text: "t", Low: 7, High: 8, Pos: 3},
		{Kind: 13, Text: "t", Low: 7, High: 8, Pos: -3},
		{Kind: 15, Text: "t", Low: 9, High: -8},
		{Kind: 16, Text: "t", Low: 7, High: 8},
		{Kind: 1, Text: "\xff$", Low: 7, High: 8},
		{Kind: 14, Text: "t", Low: 7, High: 8},
		{Kind: 9, Text: "t", Low: 7, High: 8},
		{Kind: 6, Text: "t", Low: 7, High: 8},
		{Kind: 7, Text: "t", Low: 7, High: 8},
	}
	want := node(8, name(""), node(3), node(10, set(7, node(6, reach(9, -8), name("\xff$")))), node(1))
	if n, at, e := expr.Form(l, -5); show(n) != show(want) || at != -1 || e != api.OK {
		t.Error(show(n), at, e)
	}
	for _, pos := range []int{-1, 0, 5, math.MinInt, math.MaxInt} {
		if n, at, e := expr.Form([]api.Token{{Kind: 12, Pos: 1}, {Kind: 7, Pos: pos}}, 99); show(n) != show(api.Node{}) || at != pos || e != api.ErrSign {
			t.Error(show(n), at, e)
		}
		if n, at, e := expr.Form([]api.Token{{Kind: 12, Pos: 1}, {Kind: 6, Pos: 2}}, pos); show(n) != show(api.Node{}) || at != pos || e != api.ErrEnd {
			t.Error(show(n), at, e)
		}
	}
}

// P6.1: items, each kind of them, and where they stand.
func TestItems(t *testing.T) {
	a, x, none := name("a"), set(0, reach('x', 'x')), node(1)
	expect(t, "$a =", api.Item{Kind: 1, Name: "a", Before: none})
	expect(t, "$a=\n", api.Item{Kind: 1, Name: "a", Before: none})
	expect(t, " $a_1 = [x] # note", api.Item{Kind: 1, Name: "a_1", Before: x, Pos: 1})
	expect(t, "3 $a \u00d7 $b|", api.Item{Kind: 2, Number: 3000, Before: a, After: node(9, name("b"), none)})
	expect(t, "0\u00d7", api.Item{Kind: 2, Before: none, After: none})
	expect(t, "0 \u00f7 # note", api.Item{Kind: 2, Cut: true, Before: none, After: none})
	expect(t, "999.999 () \u00f7 ()", api.Item{Kind: 2, Number: 999999, Cut: true, Before: none, After: none})
	expect(t, "3.1 \u00d7 $a", api.Item{Kind: 2, Number: 3100, Before: none, After: a})
	expect(t, "3.001 $a \u00f7", api.Item{Kind: 2, Number: 3001, Cut: true, Before: a, After: none})
	expect(t, "3 . \u00d7 .", api.Item{Kind: 2, Number: 3000, Before: node(3), After: node(3)})
	expect(t, "#allow dead", api.Item{Kind: 3, Name: "dead", Number: -1})
	expect(t, "#allow dead 0", api.Item{Kind: 3, Name: "dead"})
	expect(t, "\t#allow idle 3.25\n", api.Item{Kind: 3, Name: "idle", Number: 3250, Pos: 1})
	expect(t, "\n \n$a = [x] # first\n#\n\n3.1 $a \u00d7\n#allow dead 3.1\n#allow void\n4\u00f7.\n\n",
		api.Item{Kind: 1, Name: "a", Before: x, Pos: 3},
		api.Item{Kind: 2, Number: 3100, Before: a, After: none, Pos: 23},
		api.Item{Kind: 3, Name: "dead", Number: 3100, Pos: 33},
		api.Item{Kind: 3, Name: "void", Number: -1, Pos: 49},
		api.Item{Kind: 2, Number: 4000, Cut: true, Before: none, After: node(3), Pos: 61})
	// One rule or name may stand there twice: that is for layers above.
	expect(t, "$a=\n$a=", api.Item{Kind: 1, Name: "a", Before: none}, api.Item{Kind: 1, Name: "a", Before: none, Pos: 4})
}

// P6.1: what layer 5 refuses is refused as it says, whatever else is wrong ahead of it.
func TestWordsRefused(t *testing.T) {
	refuse(t, strings.Repeat("\n", 3001), 0, api.ErrLong)
	refuse(t, ")"+strings.Repeat("\n", 3000), 0, api.ErrLong)
	refuse(t, ") \xff", 2, api.ErrBytes)
	refuse(t, ") [", 3, api.ErrEnd)
	refuse(t, ") $", 2, api.ErrSign)
	refuse(t, "$a = [c-a]", 6, api.ErrRange)
	refuse(t, ")\n[\\q]", 3, api.ErrEscape)
	refuse(t, ")\n$abcdefghijklmnopq", 2, api.ErrLong)
	refuse(t, "= 1234", 2, api.ErrLong)
	refuse(t, "x", 0, api.ErrSign)
	refuse(t, strings.Repeat("1\u00d7\n", 101)+"03", 404, api.ErrSign)
	refuse(t, "$a="+strings.Repeat("(", 13)+"#allow X", 16, api.ErrSign)
}

// P6.1: tokens that may not stand where they do.
func TestSigns(t *testing.T) {
	for _, s := range []string{"=", "\u00d7", "\u00f7", "(", ")", "|", "*", "+", "?", ".", "[a]", "[^]"} {
		refuse(t, s, 0, api.ErrSign)
		refuse(t, "\n "+s+" $a", 2, api.ErrSign)
		refuse(t, "$a = .\n"+s, 7, api.ErrSign)
		refuse(t, "#allow dead\n"+s, 12, api.ErrSign)
	}
	for _, s := range []string{"\u00d7", "\u00f7", "(", ")", "|", "*", "+", "?", ".", "[a]", "$b", "3", "\n", "#allow dead", "\n= $b"} {
		refuse(t, "$a "+s, 3, api.ErrSign)
	}
	for _, s := range []string{"=", "\u00d7", "\u00f7", ")", "3", "#allow dead"} {
		refuse(t, "$a = "+s, 5, api.ErrSign)
		refuse(t, "$a = . "+s, 7, api.ErrSign)
		refuse(t, "$a = .| "+s, 8, api.ErrSign)
		refuse(t, "$a = () "+s+" .", 8, api.ErrSign)
		refuse(t, "3 $a \u00d7 $b "+s, 11, api.ErrSign)
	}
	for _, s := range []string{"=", ")", "3", "#allow dead", "\n", "\n\u00d7"} {
		refuse(t, "3 "+s, 2, api.ErrSign)
		refuse(t, "3 $a|$b "+s, 8, api.ErrSign)
	}
	for _, s := range []string{"=", "\u00d7", "\u00f7", "3", "#allow dead", "\n", "\n)"} {
		refuse(t, "$a = ( "+s, 7, api.ErrSign)
		refuse(t, "3 (.| "+s, 6, api.ErrSign)
	}
	for _, s := range []string{"*", "+", "?"} {
		for _, ahead := range []string{"", "(", "$b|", "(|", "$b*", "$b+", "$b?", ".*", "()+", "[x]?", "[]|"} {
			refuse(t, "$a="+ahead+s, 3+len(ahead), api.ErrSign)
			refuse(t, "3 \u00d7 "+ahead+s, 5+len(ahead), api.ErrSign)
		}
	}
	refuse(t, "$a = [&a]", 6, api.ErrSign)
	refuse(t, "$a = [a&]", 8, api.ErrSign)
	refuse(t, "$a = [a&&b]", 8, api.ErrSign)
	refuse(t, "$a = [$b-]", 9, api.ErrSign)
	refuse(t, "$a = [$b-&]", 9, api.ErrSign)
	refuse(t, "$a = [[&]]", 7, api.ErrSign)
	refuse(t, "$a = [[x]&[y-z&]]", 15, api.ErrSign)
	refuse(t, "3 \u00d7 \u00f7", 5, api.ErrSign)
	refuse(t, "3 3 \u00d7", 2, api.ErrSign)
	refuse(t, "3 $a = $b", 5, api.ErrSign)
	refuse(t, "3 ($a \u00d7 $b)", 6, api.ErrSign)
	refuse(t, "$a = . = .", 7, api.ErrSign)
}

// P6.1: what ends where a token must stand.
func TestEnds(t *testing.T) {
	for _, s := range []string{"$a", "$a # note", "3", "3 $a", "3 $a|", "3 ()", "3 # \u00d7", "$a = (", "$a = ($b", "$a = (()", "$a = ((.)|", "3 (", "3 \u00d7 (", "3 . \u00f7 .|(.*", "\n\n3.1", "3 \u00d7\n$b", "$a \t "} {
		refuse(t, s, len(s), api.ErrEnd)
	}
	for _, kinds := range [][]int{{6}, {13}, {13, 15}, {13, 15, 16}, {13, 1, 17}, {13, 13, 14}, {6, 13, 14}, {6, 8}, {6, 12, 9}, {13, 1, 17, 13}} {
		if e := checkForm(t, tokens(kinds), 1234); e != api.ErrEnd {
			t.Errorf("%v: %d", kinds, e)
		}
	}
}

// tokens: those of some kinds, told apart by their fields.
func tokens(kinds []int) []api.Token {
	l := []api.Token{}
	for i, k := range kinds {
		t := api.Token{Kind: k, Pos: 3*i + 1}
		switch k {
		case api.TokName:
			t.Text = fmt.Sprint("n", i)
		case api.TokSet:
			t.Low = i % 2
		case api.TokRange:
			t.Low, t.High = 10*i, 10*i+5
		}
		l = append(l, t)
	}
	return l
}

// P6.1: brackets and sets within 12 others, mixed; one more is too deep.
func TestDepth(t *testing.T) {
	nest := func(round, square int, in string) string {
		return strings.Repeat("(", round) + strings.Repeat("[", square) + in + strings.Repeat("]", square) + strings.Repeat(")", round)
	}
	for round := range 14 {
		if s := "$a=" + nest(round, 12-min(round, 12), ""); round <= 12 {
			if e := check(t, s); e != api.OK {
				t.Errorf("%q: %d", s, e)
			}
		}
		refuse(t, "$a="+nest(round, 13-round, ""), 15, api.ErrDeep)
		refuse(t, "$a="+nest(round, 14-round, "")+")", 15, api.ErrDeep)
		refuse(t, "3 \u00d7 "+nest(round, 13-round, ""), 17, api.ErrDeep)
	}
	deep := nest(12, 0, ".*")
	for _, s := range []string{deep + deep, deep + "*|" + nest(5, 7, "a"), nest(11, 0, "[a](.)|[^b]*()"), nest(0, 11, "[a]&[b]-[c]$a")} {
		for _, line := range []string{"$a=" + s, "3 " + s + "\u00d7" + s, "$a=" + s + "\n3 " + s + "\u00f7"} {
			if e := check(t, line); e != api.OK {
				t.Errorf("%q: %d", line, e)
			}
		}
	}
	refuse(t, "$a="+deep+nest(13, 0, ""), 3+len(deep)+12, api.ErrDeep)
	refuse(t, "$a="+nest(12, 0, "$b []"), 18, api.ErrDeep)
	refuse(t, "$a="+nest(12, 0, ".|()"), 17, api.ErrDeep)
	refuse(t, "$a="+nest(0, 12, "a&[b]"), 17, api.ErrDeep)
	refuse(t, "$a="+nest(0, 12, "$b-[b]"), 18, api.ErrDeep)
	refuse(t, "$a="+nest(12, 0, "*()"), 15, api.ErrSign)
	// What may not stand there is refused as such, however deep; what is too deep, ahead of a missing end.
	inSets := slices.Repeat([]int{13}, 12)
	if e := checkForm(t, tokens(append(inSets, 6)), 99); e != api.ErrSign {
		t.Error(e)
	}
	if e := checkForm(t, tokens(append(inSets, 13)), 99); e != api.ErrDeep {
		t.Error(e)
	}
	if e := checkForm(t, tokens(slices.Repeat([]int{6}, 5000)), 99); e != api.ErrDeep {
		t.Error(e)
	}
}

// P6.1: 100 items; the token with which the 101st would begin is refused, whatever it is.
func TestHundredItems(t *testing.T) {
	for _, line := range []string{"1\u00d7\n", "$a=\n", "#allow a\n", "\n\n$a=.|\n\n", "3 [a] \u00f7 # note\n"} {
		full := strings.Repeat(line, 100)
		for _, s := range []string{"", "\n", "\n\n", "# note", "\n# note\n\n"} {
			if l, at, e := expr.Of([]byte(full + s)); len(l) != 100 || at != -1 || e != api.OK {
				t.Errorf("%q: %d %d %d", line, len(l), at, e)
			}
			check(t, full+s)
		}
		for _, s := range []string{"1\u00d7", "1", "$a=", "$a", "#allow a", "=", "\u00d7", "(", ")", "|", "*", "+", "?", ".", "[a]", "((((((((((((("} {
			refuse(t, full+s, len(full), api.ErrMany)
			refuse(t, full+" \n\t"+s+"\n", len(full)+3, api.ErrMany)
			refuse(t, full+s+"\n)", len(full), api.ErrMany)
		}
	}
	// What is wrong ahead of it, or behind the 100th item in its own line, is told as it is.
	most := strings.Repeat("1\u00d7\n", 99)
	refuse(t, most+"1\u00d7 #allow a", len(most)+4, api.ErrSign)
	refuse(t, most+"1\u00d7 1", len(most)+4, api.ErrSign)
	refuse(t, most+")\n1\u00d7", len(most), api.ErrSign)
	refuse(t, most+"1", len(most)+1, api.ErrEnd)
	refuse(t, ")\n"+most+"1\u00d7\n1\u00d7", 0, api.ErrSign)
}

// listsOf: all lists of at most so many of some kinds.
func listsOf(most int, kinds ...int) [][]int {
	all := [][]int{nil}
	from := 0
	for range most {
		to := len(all)
		for _, l := range all[from:to] {
			for _, k := range kinds {
				all = append(all, append(slices.Clone(l), k))
			}
		}
		from = to
	}
	return all
}

// P6.1: Form of all short lists of tokens, and of longer ones of what forms and sets are made of.
func TestAllShortLists(t *testing.T) {
	met := map[api.Errno]int{}
	try := func(kinds []int) {
		met[checkForm(t, tokens(kinds), 1000)]++
	}
	all := []int{-1, 20, math.MaxInt, math.MinInt}
	for k := range 19 {
		all = append(all, k+1)
	}
	for _, l := range listsOf(3, all...) {
		try(l)
		try(append(slices.Repeat([]int{6}, 11), l...))
		try(append(slices.Repeat([]int{13}, 11), l...))
		try(slices.Concat([]int{13}, l, []int{14}))
		try(slices.Concat([]int{6}, l, []int{7, 11}))
	}
	for _, l := range listsOf(6, 1, 6, 7, 8, 9, 13, 14) {
		try(l)
	}
	for _, l := range listsOf(6, 1, 13, 14, 15, 16, 17) {
		try(slices.Concat([]int{13}, l, []int{14}))
	}
	for _, e := range []api.Errno{api.OK, api.ErrSign, api.ErrEnd, api.ErrDeep} {
		if met[e] < 100 {
			t.Errorf("error %d met %d times", e, met[e])
		}
	}
}

// textsOf: all texts of at most so many of some parts.
func textsOf(most int, parts ...string) []string {
	var all []string
	numbers := make([]int, len(parts))
	for i := range numbers {
		numbers[i] = i
	}
	for _, l := range listsOf(most, numbers...) {
		s := ""
		for _, i := range l {
			s += parts[i]
		}
		all = append(all, s)
	}
	return all
}

// P6.1, P6.2: Of of all short texts of what tells items apart.
func TestAllShortTexts(t *testing.T) {
	met := map[api.Errno]int{}
	parts := []string{"$a", "3 ", "=", "\u00d7", "\u00f7", "(", ")", "|", "*", ".", "[b]", "\n", "#allow c\n", "#allow c 1"}
	for _, s := range textsOf(4, parts...) {
		met[check(t, s)]++
	}
	for _, s := range textsOf(3, parts...) {
		met[check(t, "$a="+s)]++
		met[check(t, "3 \u00f7"+s+"\n4\u00d7")]++
		met[check(t, strings.Repeat("1\u00d7\n", 99)+s)]++
	}
	for _, e := range []api.Errno{api.OK, api.ErrSign, api.ErrEnd, api.ErrMany} {
		if met[e] < 100 {
			t.Errorf("error %d met %d times", e, met[e])
		}
	}
}

// manyOf: a text that hangs on its seed alone, most of its parts right where they stand.
func manyOf(seed uint32) string {
	parts := []string{"$a ", "$b_2", "3 ", "4.25 ", "=", "=", "\u00d7", "\u00d7", "\u00f7", "(", "(", ")", ")", "|", "*", "+", "?", ".", "\n", "\n", " # note\n", "#allow dead\n", "#allow dead 3.1\n", "[a-c]", "[^]", "[", "[", "[^", "]", "]", "x", "y-z", "&", "-", " "}
	next := func(n int) int {
		seed = seed*1664525 + 1013904223
		return int(seed>>8) % n
	}
	s := ""
	for range 1 + next(60) {
		p := parts[next(len(parts))]
		l, _, e := word.Of([]byte(s + p))
		if e == api.OK {
			_, e = machine{lines: true}.wrongOf(l, 0)
		}
		// What is wrong is left out nearly always, so that texts go on behind it.
		if e != api.OK && e != api.ErrEnd && next(64) > 0 {
			continue
		}
		s += p
	}
	return s
}

// P6.1, P6.2: Of against the document's words on many texts.
func TestManyTexts(t *testing.T) {
	met := map[api.Errno]int{}
	for seed := range uint32(20000) {
		met[check(t, manyOf(seed))]++
	}
	for _, e := range []api.Errno{api.OK, api.ErrSign, api.ErrEnd} {
		if met[e] < 500 {
			t.Errorf("error %d met %d times", e, met[e])
		}
	}
}

// later: items that stand so many bytes further on.
func later(l []api.Item, by int) []api.Item {
	l = slices.Clone(l)
	for i := range l {
		l[i].Pos += by
	}
	return l
}

// P6.2: items of two texts, one behind the other, are both's; what is wrong in one line is wrong there, whatever lines stand by it.
func TestLineByLine(t *testing.T) {
	lines := []string{"", "  # note", "$a = [x]", "$b=($a|[^y&z])*", "3 \u00d7", "3.5 $a \u00f7 $b|", "#allow dead", "\t#allow idle 3.5", "$a", "3 $a", "$a = (", "$a = )", "$a = .**", "= .", "$a = [&x]", "3 \u00d7 \u00d7", "4 . \u00d7 " + strings.Repeat("(", 13), "$a = . #allow dead"}
	for _, one := range lines {
		for _, two := range lines {
			checkTwo(t, one+"\n", two)
			checkTwo(t, one+"\n", two+"\n")
			checkTwo(t, one+"\n"+two+"\n", one)
		}
	}
	for seed := range uint32(2000) {
		checkTwo(t, manyOf(seed)+"\n", manyOf(seed+2000))
	}
}

// checkTwo: two texts that layer 5 takes, the first one of whole lines, against both as one text.
func checkTwo(t *testing.T, a, b string) {
	t.Helper()
	for _, s := range []string{a, b} {
		if _, _, e := word.Of([]byte(s)); e != api.OK {
			return
		}
	}
	first, at, e := expr.Of([]byte(a))
	second, at2, e2 := expr.Of([]byte(b))
	if e == api.OK && e2 != api.OK {
		at, e = at2+len(a), e2
	}
	want := slices.Concat(first, later(second, len(a)))
	if e != api.OK {
		want = nil
	}
	l, gotAt, gotE := expr.Of([]byte(a + b))
	if showAll(l) != showAll(want) || gotAt != at || gotE != e {
		t.Fatalf("%q %q: %s%d %d, not %s%d %d", a, b, showAll(l), gotAt, gotE, showAll(want), at, e)
	}
}

// P6.1: forms that differ in one thing alone.
func TestSame(t *testing.T) {
	base := api.Node{Kind: 8, Name: "n", Low: 3, High: 4, Kids: []api.Node{name("a"), set(0, reach(1, 2))}}
	others := []api.Node{base, base, base, base, base, base, base, base, base, base, base, {}, node(1), name("a")}
	others[0].Kind = 9
	others[1].Name = "m"
	others[2].Low = -3
	others[3].High = 5
	others[4].Kids = nil
	others[5].Kids = base.Kids[:1]
	others[6].Kids = []api.Node{name("a"), set(0, reach(1, 2)), {}}
	others[7].Kids = []api.Node{set(0, reach(1, 2)), name("a")}
	others[8].Kids = []api.Node{name("a"), set(0, reach(1, 3))}
	others[9].Kids = []api.Node{name("a"), set(1, reach(1, 2))}
	others[10].Kids = []api.Node{name("b"), set(0, reach(1, 2))}
	for i, x := range others {
		if expr.Same(base, x) || expr.Same(x, base) || !expr.Same(x, x) {
			t.Error(i, show(x))
		}
	}
	copied := api.Node{Kind: 8, Name: "n", Low: 3, High: 4, Kids: []api.Node{{Kind: 2, Name: "a", Kids: []api.Node{}}, set(0, reach(1, 2))}}
	if !expr.Same(base, copied) || !expr.Same(copied, base) || !expr.Same(api.Node{}, api.Node{Kids: []api.Node{}}) {
		t.Error("a list that holds nothing may be nil or empty")
	}
	if expr.Same(api.Node{Kind: math.MinInt}, api.Node{Kind: math.MaxInt}) || !expr.Same(api.Node{Kind: math.MinInt}, api.Node{Kind: math.MinInt}) {
		t.Error("kinds")
	}
	if !expr.Same(chain(200, name("a")), chain(200, name("a"))) || expr.Same(chain(200, name("a")), chain(200, name("b"))) || expr.Same(chain(200, name("a")), chain(199, name("a"))) {
		t.Error("deep forms")
	}
}

// chain: a node within so many others.
func chain(many int, n api.Node) api.Node {
	for range many {
		n = node(10, n)
	}
	return n
}

// P6.1: items that differ in one thing alone, in Pos alone.
func TestSameItems(t *testing.T) {
	base := api.Item{Kind: 2, Name: "n", Number: 3, Cut: true, Before: node(8, name("a"), node(3)), After: name("b"), Pos: 5}
	others := []api.Item{base, base, base, base, base, base, base, base, {}}
	others[0].Kind = 1
	others[1].Name = ""
	others[2].Number = -3
	others[3].Cut = false
	others[4].Before = node(8, name("c"), node(3))
	others[5].After = name("a")
	others[6].Before, others[6].After = base.After, base.Before
	others[7].After = api.Node{}
	for i, x := range others {
		one, two := []api.Item{x}, []api.Item{base}
		if expr.Items(one, two) || expr.Items(two, one) || !expr.Items(one, one) {
			t.Error(i, showAll(one))
		}
		if expr.Items([]api.Item{base, x}, []api.Item{base, base}) || expr.Items([]api.Item{base, x}, []api.Item{x, base}) || expr.Items([]api.Item{base, x}, []api.Item{base}) || expr.Items([]api.Item{base}, []api.Item{base, x}) {
			t.Error(i, "in a list")
		}
	}
	for _, pos := range []int{0, -1, 6, math.MaxInt} {
		moved := base
		moved.Pos = pos
		if !expr.Items([]api.Item{base, moved}, []api.Item{moved, base}) {
			t.Error("places", pos)
		}
	}
	if !expr.Items(nil, []api.Item{}) || !expr.Items(nil, nil) || expr.Items(nil, []api.Item{{}}) || expr.Items([]api.Item{{}}, nil) {
		t.Error("no items")
	}
}

// P6.1: how many nodes; 100000, if more.
func TestSize(t *testing.T) {
	wide := func(many int) api.Node { return node(9, make([]api.Node, many)...) }
	twice := name("a")
	for range 200 {
		twice = node(8, twice, twice)
	}
	for _, x := range []struct {
		n    api.Node
		want int
	}{
		{api.Node{}, 1}, {name("a"), 1}, {set(0), 1}, {node(10, name("a")), 2},
		{node(9, name("a"), node(10, name("b"))), 4},
		{set(1, node(7, node(6, name("a"), reach(1, 2)), set(0))), 6},
		{chain(200, name("a")), 201}, {wide(1), 2}, {wide(99998), 99999}, {wide(99999), 100000},
		{wide(100000), 100000}, {wide(300000), 100000}, {node(8, wide(49998), wide(49998)), 99999},
		{node(8, wide(49998), wide(49999)), 100000}, {node(8, wide(49999), wide(49999)), 100000},
		{node(8, wide(99997), name("a")), 100000}, {node(8, wide(99998), name("a")), 100000},
		{chain(199, wide(99800)), 100000}, {chain(199, wide(99799)), 99999}, {twice, 100000},
	} {
		if got := expr.Size(x.n); got != x.want {
			t.Errorf("%d, not %d", got, x.want)
		}
	}
}

// P6.1: the longest texts, with as much as they may hold.
func TestLongTexts(t *testing.T) {
	both := "$a=[b" + strings.Repeat("&c", 1497) + "]"
	for s, want := range map[string]int{
		both:                                2996,
		"$a=" + strings.Repeat(".", 2997):   2998,
		"$a=" + strings.Repeat("|", 2997):   2999,
		"$a=" + strings.Repeat("()", 1498):  1499,
		"$a=[" + strings.Repeat("x", 2995):  0,
		"$a=" + strings.Repeat(".*", 1498):  2997,
		"$a=" + strings.Repeat("[]?", 999):  1999,
		"$a=" + strings.Repeat("(.)|", 749): 751,
	} {
		l, at, e := expr.Of([]byte(s))
		if want == 0 {
			if len(l) != 0 || at != len(s) || e != api.ErrEnd {
				t.Error(len(l), at, e)
			}
			continue
		}
		if len(l) != 1 || at != -1 || e != api.OK || expr.Size(l[0].Before) != want {
			t.Errorf("%.12q: %d items, %d %d", s, len(l), at, e)
		}
	}
}

// wipe: all that an answer's lists hold, their spare room too.
func wipe(n api.Node) {
	room := n.Kids[:cap(n.Kids)]
	for i := range room {
		if i < len(n.Kids) {
			wipe(room[i])
		}
		room[i] = api.Node{Kind: -7}
	}
}

// fillRoom: the spare room of all lists of a form.
func fillRoom(n api.Node) {
	for i := range n.Kids[:cap(n.Kids)] {
		if i < len(n.Kids) {
			fillRoom(n.Kids[i])
		} else {
			n.Kids[:cap(n.Kids)][i] = api.Node{Kind: -7}
		}
	}
}

// What is handed in isn't changed, its spare room neither read nor changed; an answer is its own memory, and no two of its lists share any.
func TestWhatIsHandedInStays(t *testing.T) {
	const text = "$ab=([c-e]|$f[^$g&[h]-i]*)+.\n3 $ab\u00d7(.|)|.\n#allow dead 3"
	whole := []byte(text + " )")
	b := whole[:len(text)]
	l, at, e := expr.Of(b)
	if e != api.OK || at != -1 || string(whole) != text+" )" {
		t.Fatalf("%s %d %d %q", showAll(l), at, e, whole)
	}
	want := showAll(l)
	for i := range whole {
		whole[i] = 'x'
	}
	again, _, _ := expr.Of([]byte(text))
	for _, x := range again {
		wipe(x.Before)
		wipe(x.After)
	}
	for _, x := range l {
		fillRoom(x.Before)
		fillRoom(x.After)
	}
	if showAll(l) != want {
		t.Errorf("an answer changed: %s", showAll(l))
	}
	all, _, _ := word.Of([]byte("($a[b-c&$d]*|)+ . )"))
	kept := slices.Clone(all)
	tokens := all[: len(all)-1 : len(all)]
	n, at, e := expr.Form(tokens, 17)
	if at != -1 || e != api.OK || !slices.Equal(all, kept) {
		t.Fatal(show(n), at, e, all)
	}
	shown := show(n)
	clear(all)
	fillRoom(n)
	if show(n) != shown {
		t.Error("an answer changed with its argument:", show(n))
	}
	if _, at, e := expr.Form(kept, 17); at != 18 || e != api.ErrSign {
		t.Error(at, e)
	}
}

// Same, Items and Size change nothing of what they are handed.
func TestAsked(t *testing.T) {
	n := node(9, name("a"), set(1, reach(3, 4)), node(10, node(3)))
	l := []api.Item{{Kind: 2, Number: 7, Before: n, After: n, Pos: 9}, {Kind: 3, Name: "dead"}}
	shown, shownAll := show(n), showAll(l)
	expr.Same(n, node(9, name("a")))
	expr.Size(n)
	expr.Items(l, l)
	expr.Items(l, l[1:])
	if show(n) != shown || showAll(l) != shownAll {
		t.Error(show(n), showAll(l))
	}
}
