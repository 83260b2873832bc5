package word_test

import (
	"math"
	"regexp"
	"slices"
	"strconv"
	"strings"
	"testing"
	"unicode/utf8"

	"caesura/api"
	"caesura/word"
)

// tok: a token, its fields in their order.
func tok(kind int, text string, low, high, pos int) api.Token {
	return api.Token{Kind: kind, Text: text, Low: low, High: high, Pos: pos}
}

// signs: the tokens of one character outside of sets, as the chapter's table has them.
func signs() map[string]int {
	return map[string]int{"=": 3, "\u00d7": 4, "\u00f7": 5, "(": 6, ")": 7, "|": 8, "*": 9, "+": 10, "?": 11, ".": 12, "\n": 18}
}

// The words of the document, as patterns of what a text begins with.
var (
	namePattern   = regexp.MustCompile(`^\$[a-zA-Z][a-zA-Z0-9_]*`)
	numberPattern = regexp.MustCompile(`^([0-9]+)(?:\.([0-9]+))?`)
	allowPattern  = regexp.MustCompile(`^#allow ([a-z]{1,16})(?: ((?:0|[1-9][0-9]{0,2})(?:\.[0-9]{1,3})?))?$`)
	escapePattern = regexp.MustCompile("^\\\\(?:[nt!-/:-@\\[-`{-~]|u\\{([0-9a-fA-F]{1,6})\\})")
	begunPattern  = regexp.MustCompile(`^\\(?:|u|u\{[0-9a-fA-F]{0,6})$`)
)

// wrong: where a text is wrong, and why.
type wrong struct {
	at  int
	why api.Errno
}

// thousandths: a right number's.
func thousandths(s string) int {
	whole, part, _ := strings.Cut(s, ".")
	n, _ := strconv.Atoi(whole + (part + "000")[:3])
	return n
}

// charOf: the words of the document for a character in a set, at a place of a text.
func charOf(s string, at int) (c, next int, w *wrong) {
	rest := s[at:]
	if rest == "" || begunPattern.MatchString(rest) {
		return 0, 0, &wrong{len(s), api.ErrEnd}
	}
	if strings.ContainsRune("[]&-$#^\n", []rune(rest)[0]) {
		return 0, 0, &wrong{at, api.ErrSign}
	}
	if rest[0] != '\\' {
		r, size := utf8.DecodeRuneInString(rest)
		return int(r), at + size, nil
	}
	m := escapePattern.FindStringSubmatch(rest)
	if m == nil {
		return 0, 0, &wrong{at, api.ErrEscape}
	}
	next = at + len(m[0])
	switch {
	case m[1] != "":
		n, _ := strconv.ParseInt(m[1], 16, 64)
		if n > 0x10ffff {
			return 0, 0, &wrong{at, api.ErrEscape}
		}
		return int(n), next, nil
	case rest[1] == 'n':
		return 10, next, nil
	case rest[1] == 't':
		return 9, next, nil
	}
	return int(rest[1]), next, nil
}

// oneOutside: the token at a place outside of sets, and the place behind it; without a Kind a note that is none.
func oneOutside(s string, at int) (api.Token, int, *wrong) {
	rest := s[at:]
	if rest[0] == '#' {
		line, _, _ := strings.Cut(rest, "\n")
		m := allowPattern.FindStringSubmatch(line)
		switch {
		case m != nil && m[2] != "":
			return tok(19, m[1], thousandths(m[2]), 0, at), at + len(line), nil
		case m != nil:
			return tok(19, m[1], -1, 0, at), at + len(line), nil
		case strings.HasPrefix(line, "#allow "):
			return api.Token{}, 0, &wrong{at, api.ErrSign}
		}
		return api.Token{}, at + len(line), nil
	}
	if m := numberPattern.FindStringSubmatch(rest); m != nil {
		switch {
		case len(m[1]) > 1 && m[1][0] == '0':
			return api.Token{}, 0, &wrong{at, api.ErrSign}
		case len(m[1]) > 3 || len(m[2]) > 3:
			return api.Token{}, 0, &wrong{at, api.ErrLong}
		}
		return tok(2, "", thousandths(m[0]), 0, at), at + len(m[0]), nil
	}
	r, size := utf8.DecodeRuneInString(rest)
	if kind := signs()[string(r)]; kind != 0 {
		return tok(kind, "", 0, 0, at), at + size, nil
	}
	return api.Token{}, 0, &wrong{at, api.ErrSign}
}

// oneInSet: the token at a place of a set, behind one of a kind, and the place behind it.
func oneInSet(s string, at, ahead int) (api.Token, int, *wrong) {
	switch s[at] {
	case ']':
		return tok(14, "", 0, 0, at), at + 1, nil
	case '&':
		return tok(16, "", 0, 0, at), at + 1, nil
	case '-':
		if ahead == 14 || ahead == 1 {
			return tok(17, "", 0, 0, at), at + 1, nil
		}
		return api.Token{}, 0, &wrong{at, api.ErrSign}
	}
	low, next, w := charOf(s, at)
	high := low
	if w == nil && strings.HasPrefix(s[next:], "-") {
		high, next, w = charOf(s, next+1)
	}
	if w == nil && high < low {
		w = &wrong{at, api.ErrRange}
	}
	if w != nil {
		return api.Token{}, 0, w
	}
	return tok(15, "", low, high, at), next, nil
}

// oneOf: the token at a place of a text, whether a set is open there or not.
func oneOf(s string, at, ahead int, open bool) (api.Token, int, *wrong) {
	rest := s[at:]
	if m := namePattern.FindString(rest); m != "" {
		if len(m) > 17 {
			return api.Token{}, 0, &wrong{at, api.ErrLong}
		}
		return tok(1, m[1:], 0, 0, at), at + len(m), nil
	}
	switch {
	case strings.HasPrefix(rest, "[^"):
		return tok(13, "", 1, 0, at), at + 2, nil
	case rest[0] == '[':
		return tok(13, "", 0, 0, at), at + 1, nil
	case open:
		return oneInSet(s, at, ahead)
	}
	return oneOutside(s, at)
}

// tokensOf: the words of the document for Of, of a text that is characters' bytes.
func tokensOf(s string) ([]api.Token, int, api.Errno) {
	var l []api.Token
	at, open, ahead := 0, 0, 0
	for at < len(s) {
		if s[at] == ' ' || s[at] == '\t' {
			at++
			continue
		}
		t, next, w := oneOf(s, at, ahead, open > 0)
		if w != nil {
			return nil, w.at, w.why
		}
		switch t.Kind {
		case 13:
			open++
		case 14:
			open--
		}
		if t.Kind != 0 {
			l, ahead = append(l, t), t.Kind
		}
		at = next
	}
	if open > 0 {
		return nil, len(s), api.ErrEnd
	}
	return l, -1, api.OK
}

// check: Of of a text that is characters' bytes, against the words of the document; the error it answers.
func check(t *testing.T, s string) api.Errno {
	t.Helper()
	want, wantAt, wantE := tokensOf(s)
	l, at, e := word.Of([]byte(s))
	if !slices.Equal(l, want) || at != wantAt || e != wantE {
		t.Fatalf("%q: %v %d %d, not %v %d %d", s, l, at, e, want, wantAt, wantE)
	}
	checkShape(t, s, l)
	return e
}

// checkShape, P5.2: places rise, and sets end.
func checkShape(t *testing.T, s string, l []api.Token) {
	t.Helper()
	last, open := -1, 0
	for _, x := range l {
		if x.Pos <= last || x.Pos >= len(s) {
			t.Fatalf("%q: place %d behind %d", s, x.Pos, last)
		}
		last = x.Pos
		switch x.Kind {
		case api.TokSet:
			open++
		case api.TokEnd:
			open--
		}
		if open < 0 {
			t.Fatalf("%q: a set ends that isn't open at %d", s, x.Pos)
		}
	}
	if open != 0 {
		t.Fatalf("%q: %d sets without an end", s, open)
	}
}

// expect: Of of a text, with its tokens written down; and the test's own words of the document alike.
func expect(t *testing.T, s string, want ...api.Token) {
	t.Helper()
	if l, at, e := word.Of([]byte(s)); !slices.Equal(l, want) || at != -1 || e != api.OK {
		t.Errorf("%q: %v %d %d, not %v", s, l, at, e, want)
	}
	check(t, s)
}

// refuse: Of of a text that is wrong at a byte.
func refuse(t *testing.T, s string, wantAt int, want api.Errno) {
	t.Helper()
	if l, at, e := word.Of([]byte(s)); len(l) != 0 || at != wantAt || e != want {
		t.Errorf("%q: %v %d %d, not %d %d", s, l, at, e, wantAt, want)
	}
}

// P5.1: nothing but what is let be between tokens.
func TestNoTokens(t *testing.T) {
	for _, none := range [][]byte{nil, {}} {
		if l, at, e := word.Of(none); len(l) != 0 || at != -1 || e != api.OK {
			t.Error(l, at, e)
		}
	}
	for _, s := range []string{" ", "\t", " \t \t", "#", "##", "# ", "#x", "#[", "#$", "# note \u00d7 \u20ac \\q 1234 $ ]", " \t# note", "#allow", "#allows", "#allow\t", "#allow\tdead", "# allow dead", "##allow dead", "#Allow dead", "#allow#", "#all dead", "#\r"} {
		expect(t, s)
	}
}

// P5.1: each token of the table alone, with blanks, tabs and notes around it.
func TestEachTokenAlone(t *testing.T) {
	each := map[string]api.Token{
		"$a": tok(1, "a", 0, 0, 0), "$Z_9": tok(1, "Z_9", 0, 0, 0), "0": tok(2, "", 0, 0, 0), "7": tok(2, "", 7000, 0, 0), "12.5": tok(2, "", 12500, 0, 0),
		"#allow dead": tok(19, "dead", -1, 0, 0), "#allow dead 3.1": tok(19, "dead", 3100, 0, 0),
	}
	for s, kind := range signs() {
		each[s] = tok(kind, "", 0, 0, 0)
	}
	for s, want := range each {
		expect(t, s, want)
		for _, ahead := range []string{" ", "\t", " \t ", "\t\t"} {
			want.Pos = len(ahead)
			expect(t, ahead+s, want)
			if want.Kind != api.TokAllow {
				expect(t, ahead+s+ahead, want)
				expect(t, ahead+s+ahead+"# note = $ [", want)
			}
		}
		want.Pos = 5
		expect(t, "#[$q\n"+s, tok(18, "", 0, 0, 4), want)
	}
}

// P5.1: one token right behind another one.
func TestTokensRightBehindOthers(t *testing.T) {
	expect(t, "=\u00d7\u00f7()|*+?.\n", tok(3, "", 0, 0, 0), tok(4, "", 0, 0, 1), tok(5, "", 0, 0, 3), tok(6, "", 0, 0, 5), tok(7, "", 0, 0, 6), tok(8, "", 0, 0, 7), tok(9, "", 0, 0, 8), tok(10, "", 0, 0, 9), tok(11, "", 0, 0, 10), tok(12, "", 0, 0, 11), tok(18, "", 0, 0, 12))
	expect(t, "$a$b3=4", tok(1, "a", 0, 0, 0), tok(1, "b3", 0, 0, 2), tok(3, "", 0, 0, 5), tok(2, "", 4000, 0, 6))
	expect(t, "3$a\u00d7[a]5", tok(2, "", 3000, 0, 0), tok(1, "a", 0, 0, 1), tok(4, "", 0, 0, 3), tok(13, "", 0, 0, 5), tok(15, "", 'a', 'a', 6), tok(14, "", 0, 0, 7), tok(2, "", 5000, 0, 8))
	expect(t, "[][]", tok(13, "", 0, 0, 0), tok(14, "", 0, 0, 1), tok(13, "", 0, 0, 2), tok(14, "", 0, 0, 3))
	expect(t, "$a#allow x\n\n3#", tok(1, "a", 0, 0, 0), tok(19, "x", -1, 0, 2), tok(18, "", 0, 0, 10), tok(18, "", 0, 0, 11), tok(2, "", 3000, 0, 12))
	each := []string{"$a", "$a_", "0", "7", "7.5", "#\n", "#allow x\n", "#allow x 0.5\n", "[]", "[^]", "[a-c&$d]", " "}
	for s := range signs() {
		each = append(each, s)
	}
	for _, x := range each {
		for _, y := range each {
			for _, z := range each {
				check(t, x+y+z)
			}
		}
	}
}

// P5.1: names of one to 17 letters, digits and _.
func TestNames(t *testing.T) {
	const long = "abcdefghij_1234Zq"
	for n := 1; n <= 16; n++ {
		expect(t, "$"+long[:n], tok(1, long[:n], 0, 0, 0))
		expect(t, "["+"$"+long[:n]+"]", tok(13, "", 0, 0, 0), tok(1, long[:n], 0, 0, 1), tok(14, "", 0, 0, n+2))
		expect(t, "\u00d7$"+long[:n]+"\u00d7", tok(4, "", 0, 0, 0), tok(1, long[:n], 0, 0, 2), tok(4, "", 0, 0, n+3))
	}
	expect(t, "$a__", tok(1, "a__", 0, 0, 0))
	expect(t, "$A9$z0", tok(1, "A9", 0, 0, 0), tok(1, "z0", 0, 0, 3))
	refuse(t, "$"+long, 0, api.ErrLong)
	refuse(t, " $"+long+"x$", 1, api.ErrLong)
	refuse(t, "\u00d7[$"+long+"]", 3, api.ErrLong)
	refuse(t, "$"+strings.Repeat("a", 2999), 0, api.ErrLong)
	for _, behind := range []string{"", " ", "1", "_", "_a", "$", "$a", "\n", "\u00e4", "\u00d7", "[a]", "{", "@", "`", "#"} {
		refuse(t, "$"+behind, 0, api.ErrSign)
		refuse(t, "3 \u00d7$"+behind, 4, api.ErrSign)
		refuse(t, "[$"+behind, 1, api.ErrSign)
		refuse(t, "[a$"+behind+"]", 2, api.ErrSign)
	}
	refuse(t, "$a\u00e4", 2, api.ErrSign)
	refuse(t, "$a-", 2, api.ErrSign)
}

// P5.1: Letter of all numbers near characters, and of some that are none.
func TestLetter(t *testing.T) {
	const all = "abcdefghijklmnopqrstuvwxyzABCDEFGHIJKLMNOPQRSTUVWXYZ"
	for c := -300; c <= 70000; c++ {
		want := c >= 0 && c < 128 && strings.IndexByte(all, byte(c)) >= 0
		if word.Letter(c) != want {
			t.Errorf("%x", c)
		}
	}
	for _, c := range []int{api.Top, math.MinInt, math.MaxInt, 1<<32 + 'a', -1<<32 + 'a', 'a' + 256, 0x1f600} {
		if word.Letter(c) {
			t.Errorf("%x", c)
		}
	}
}

// P5.1: Letters of none, one, 16 and 17, and of what is no small letter, wherever it stands.
func TestLetters(t *testing.T) {
	const all = "abcdefghijklmnopqrstuvwxyz"
	for n := range len(all) + 1 {
		for from := 0; from+n <= len(all); from++ {
			if got := word.Letters(all[from : from+n]); got != (n >= 1 && n <= 16) {
				t.Errorf("%q: %v", all[from:from+n], got)
			}
		}
	}
	if word.Letters("") || word.Letters(strings.Repeat("a", 3000)) {
		t.Error("none, or many")
	}
	for b := range 256 {
		want := b >= 'a' && b <= 'z'
		x := string([]byte{byte(b)})
		for _, s := range []string{x, "ab" + x, x + "ab", "a" + x + "b", strings.Repeat("z", 15) + x, x + strings.Repeat("z", 15)} {
			if word.Letters(s) != want {
				t.Errorf("%q", s)
			}
		}
	}
	for _, s := range []string{"A", "aB", "a1", "1", "a_", "a b", " a", "a ", "\u00e4", "a\u00df", "\uff41"} {
		if word.Letters(s) {
			t.Errorf("%q", s)
		}
	}
}

// P5.1, P5.2: each number there is, written shortest, and read as it was.
func TestEachNumber(t *testing.T) {
	for n := range 1000000 {
		s := word.Number(n)
		whole, part, point := strings.Cut(s, ".")
		if back := thousandths(s); back != n || point != (part != "") || strings.HasSuffix(part, "0") || len(part) > 3 || whole != strconv.Itoa(n/1000) {
			t.Fatalf("%d: %q", n, s)
		}
		l, at, e := word.Of([]byte(s))
		if e != api.OK || at != -1 || len(l) != 1 || l[0] != tok(2, "", n, 0, 0) {
			t.Fatalf("%d: %q: %v %d %d", n, s, l, at, e)
		}
		if n%37 == 0 {
			expect(t, "#allow a "+s, tok(19, "a", n, 0, 0))
		}
	}
	for n, want := range map[int]string{0: "0", 1: "0.001", 9: "0.009", 10: "0.01", 100: "0.1", 120: "0.12", 999: "0.999", 1000: "1", 1001: "1.001", 3100: "3.1", 10000: "10", 12050: "12.05", 100000: "100", 999000: "999", 999990: "999.99", 999999: "999.999"} {
		if s := word.Number(n); s != want {
			t.Errorf("%d: %q", n, s)
		}
	}
	for _, n := range []int{-1, -2, -999, -1000, math.MinInt, math.MinInt32, 1000000, 1000001, 1234567, math.MaxInt32, math.MaxInt, 1 << 32, 1<<32 + 1000} {
		if s := word.Number(n); s != "" {
			t.Errorf("%d: %q", n, s)
		}
	}
}

// P5.1: numbers as they may be written, with noughts at their ends, and points that aren't theirs.
func TestNumbers(t *testing.T) {
	for s, n := range map[string]int{"0": 0, "5": 5000, "12": 12000, "100": 100000, "999": 999000, "0.0": 0, "0.000": 0, "0.5": 500, "5.50": 5500, "5.500": 5500, "5.05": 5050, "5.005": 5005, "0.007": 7, "10.010": 10010, "999.999": 999999} {
		expect(t, s, tok(2, "", n, 0, 0))
		expect(t, s+".", tok(2, "", n, 0, 0), tok(12, "", 0, 0, len(s)))
		expect(t, s+".$a", tok(2, "", n, 0, 0), tok(12, "", 0, 0, len(s)), tok(1, "a", 0, 0, len(s)+1))
		expect(t, s+" .5", tok(2, "", n, 0, 0), tok(12, "", 0, 0, len(s)+1), tok(2, "", 5000, 0, len(s)+2))
		expect(t, s+"..5", tok(2, "", n, 0, 0), tok(12, "", 0, 0, len(s)), tok(12, "", 0, 0, len(s)+1), tok(2, "", 5000, 0, len(s)+2))
		expect(t, s+"\u00d7", tok(2, "", n, 0, 0), tok(4, "", 0, 0, len(s)))
	}
	expect(t, ".5", tok(12, "", 0, 0, 0), tok(2, "", 5000, 0, 1))
	expect(t, "1.2.3", tok(2, "", 1200, 0, 0), tok(12, "", 0, 0, 3), tok(2, "", 3000, 0, 4))
	expect(t, "1.. 2", tok(2, "", 1000, 0, 0), tok(12, "", 0, 0, 1), tok(12, "", 0, 0, 2), tok(2, "", 2000, 0, 4))
	expect(t, "1. 2", tok(2, "", 1000, 0, 0), tok(12, "", 0, 0, 1), tok(2, "", 2000, 0, 3))
	for _, s := range []string{"00", "01", "000", "007", "012", "00.5", "01.25", "010"} {
		refuse(t, s, 0, api.ErrSign)
		refuse(t, "\u00d7 "+s, 3, api.ErrSign)
	}
	for _, s := range []string{"1234", "1000", "12345678901234567890123", "1234.5", "1.2345", "0.0000", "0.1234", "1.00000000000000000000000", "1234.5678"} {
		refuse(t, s, 0, api.ErrLong)
		refuse(t, "\u00d7 "+s, 3, api.ErrLong)
	}
	// Both apply: noughts ahead are named first.
	for _, s := range []string{"0123", "0000", "00000000", "01.2345", "0000.0000"} {
		refuse(t, s, 0, api.ErrSign)
	}
	refuse(t, "3a", 1, api.ErrSign)
	refuse(t, "3_", 1, api.ErrSign)
	refuse(t, "-3", 0, api.ErrSign)
	refuse(t, "\u0663", 0, api.ErrSign)
	refuse(t, "3.\u0663", 2, api.ErrSign)
}

// P5.1: all texts of digits and points up to seven of them, alone and of an #allow.
func TestAllNumbers(t *testing.T) {
	for _, s := range textsOf(7, "0", "1", ".") {
		check(t, s)
		check(t, "#allow a "+s)
	}
}

// P5.1: #allow, with a number and without one.
func TestAllow(t *testing.T) {
	const most = "abcdefghijklmnop"
	expect(t, "#allow a", tok(19, "a", -1, 0, 0))
	expect(t, "#allow "+most, tok(19, most, -1, 0, 0))
	expect(t, "#allow "+most+" 999.999", tok(19, most, 999999, 0, 0))
	expect(t, "#allow z 0", tok(19, "z", 0, 0, 0))
	expect(t, "#allow z 0.000", tok(19, "z", 0, 0, 0))
	expect(t, "#allow dead 3.1\n#allow diff\n#allows", tok(19, "dead", 3100, 0, 0), tok(18, "", 0, 0, 15), tok(19, "diff", -1, 0, 16), tok(18, "", 0, 0, 27))
	expect(t, "3 \u00d7 #allow dead", tok(2, "", 3000, 0, 0), tok(4, "", 0, 0, 2), tok(19, "dead", -1, 0, 5))
	expect(t, "\t#allow dead 5\n ", tok(19, "dead", 5000, 0, 1), tok(18, "", 0, 0, 14))
	for _, s := range []string{
		"", " ", "  dead", " dead", "dead ", "dead  3", "dead 3 ", "dead 3 4", "dead 3\t", "dead\t", "dead\t3", "\tdead", "dead 03", "dead 1234", "dead 1.2345", "dead 3.", "dead .5", "dead 3.1.", "dead 3.1.2", "dead 0123", "dead -1", "dead x", "dead $a", "dead #", "dead#", "dead 3#", "dead\r", "dead 3\r",
		"Dead", "DEAD", "deaD", "dead1", "3", "de_ad", "$a", "dead,idle", "d\u00e9ad", "dead\u00d7", "dead 3\u00d7", most + "q", most + "q 3", "dead\u00a03",
	} {
		refuse(t, "#allow "+s, 0, api.ErrSign)
		refuse(t, "#allow "+s+"\n", 0, api.ErrSign)
		refuse(t, "\u00d7\n #allow "+s+"\n$", 4, api.ErrSign)
		// In a note that has begun already it is nothing.
		expect(t, "# #allow "+s)
	}
	refuse(t, "[#allow dead]", 1, api.ErrSign)
}

// P5.1: sets, and sets within sets, with ^ and without it.
func TestSets(t *testing.T) {
	expect(t, "[]", tok(13, "", 0, 0, 0), tok(14, "", 0, 0, 1))
	expect(t, "[^]", tok(13, "", 1, 0, 0), tok(14, "", 0, 0, 2))
	expect(t, "[ \t]", tok(13, "", 0, 0, 0), tok(14, "", 0, 0, 3))
	expect(t, "[[^[]]]", tok(13, "", 0, 0, 0), tok(13, "", 1, 0, 1), tok(13, "", 0, 0, 3), tok(14, "", 0, 0, 4), tok(14, "", 0, 0, 5), tok(14, "", 0, 0, 6))
	expect(t, "[a-c x\\u{20}]", tok(13, "", 0, 0, 0), tok(15, "", 'a', 'c', 1), tok(15, "", 'x', 'x', 5), tok(15, "", ' ', ' ', 6), tok(14, "", 0, 0, 12))
	expect(t, "[\u20ac\u00d7]\u00d7", tok(13, "", 0, 0, 0), tok(15, "", 0x20ac, 0x20ac, 1), tok(15, "", 0xd7, 0xd7, 4), tok(14, "", 0, 0, 6), tok(4, "", 0, 0, 7))
	expect(t, "[a&[b]&$c]", tok(13, "", 0, 0, 0), tok(15, "", 'a', 'a', 1), tok(16, "", 0, 0, 2), tok(13, "", 0, 0, 3), tok(15, "", 'b', 'b', 4), tok(14, "", 0, 0, 5), tok(16, "", 0, 0, 6), tok(1, "c", 0, 0, 7), tok(14, "", 0, 0, 9))
	expect(t, "[&&]", tok(13, "", 0, 0, 0), tok(16, "", 0, 0, 1), tok(16, "", 0, 0, 2), tok(14, "", 0, 0, 3))
	expect(t, "[1.5]", tok(13, "", 0, 0, 0), tok(15, "", '1', '1', 1), tok(15, "", '.', '.', 2), tok(15, "", '5', '5', 3), tok(14, "", 0, 0, 4))
	expect(t, "[\r\x00\x7f_]", tok(13, "", 0, 0, 0), tok(15, "", 13, 13, 1), tok(15, "", 0, 0, 2), tok(15, "", 127, 127, 3), tok(15, "", '_', '_', 4), tok(14, "", 0, 0, 5))
	refuse(t, "]", 0, api.ErrSign)
	refuse(t, "[]]", 2, api.ErrSign)
	refuse(t, "[a]b", 3, api.ErrSign)
	refuse(t, "[a]&", 3, api.ErrSign)
	refuse(t, "[a]-[b]", 3, api.ErrSign)
	refuse(t, "[ ^a]", 2, api.ErrSign)
	refuse(t, "[^^]", 2, api.ErrSign)
	refuse(t, "[a^]", 2, api.ErrSign)
	refuse(t, "[a\n]", 2, api.ErrSign)
	refuse(t, "[\n", 1, api.ErrSign)
	refuse(t, "[#]", 1, api.ErrSign)
	refuse(t, "[a # note]", 3, api.ErrSign)
	refuse(t, "[^#", 2, api.ErrSign)
	for n := 1; n <= 1500; n += 499 {
		s := strings.Repeat("[", n) + strings.Repeat("]", n)
		if l, at, e := word.Of([]byte(s)); len(l) != 2*n || at != -1 || e != api.OK {
			t.Error(n, len(l), at, e)
		}
		refuse(t, s[1:], len(s)-1-1, api.ErrSign)
		refuse(t, s[:len(s)-1], len(s)-1, api.ErrEnd)
	}
}

// P5.1: - behind what lets it, and behind what doesn't.
func TestLess(t *testing.T) {
	expect(t, "[[a]-$b]", tok(13, "", 0, 0, 0), tok(13, "", 0, 0, 1), tok(15, "", 'a', 'a', 2), tok(14, "", 0, 0, 3), tok(17, "", 0, 0, 4), tok(1, "b", 0, 0, 5), tok(14, "", 0, 0, 7))
	expect(t, "[$a-b-d]", tok(13, "", 0, 0, 0), tok(1, "a", 0, 0, 1), tok(17, "", 0, 0, 3), tok(15, "", 'b', 'd', 4), tok(14, "", 0, 0, 7))
	expect(t, "[$a\t - [b]]", tok(13, "", 0, 0, 0), tok(1, "a", 0, 0, 1), tok(17, "", 0, 0, 5), tok(13, "", 0, 0, 7), tok(15, "", 'b', 'b', 8), tok(14, "", 0, 0, 9), tok(14, "", 0, 0, 10))
	expect(t, "[[] -]", tok(13, "", 0, 0, 0), tok(13, "", 0, 0, 1), tok(14, "", 0, 0, 2), tok(17, "", 0, 0, 4), tok(14, "", 0, 0, 5))
	for s, at := range map[string]int{
		"[-]": 1, "[-a]": 1, "[ -a]": 2, "[^-a]": 2, "[[-a]]": 2, "[a -b]": 3, "[a\t- b]": 3, "[a-c-]": 4, "[a-c-e]": 4, "[a-c -e]": 5, "[a&-b]": 3, "[$a--b]": 4, "[[a]- -b]": 6, `[\u{61} -b]`: 8, "-": 0, "$a-$b": 2, "[]-": 2, "[\u20ac-\u20ac-]": 8,
	} {
		refuse(t, s, at, api.ErrSign)
	}
}

// P5.1: ranges, their ends written in each way.
func TestRanges(t *testing.T) {
	ends := map[string]int{
		"a": 'a', "!": '!', "0": '0', "=": '=', "\u00d7": 0xd7, "\u20ac": 0x20ac, "\U0010ffff": api.Top, "\x00": 0, "\\n": 10, "\\t": 9, "\\u{0}": 0, "\\u{20}": 32, "\\u{00004A}": 0x4a, "\\u{d800}": 0xd800, "\\u{10FFFF}": api.Top,
		"\\-": '-', "\\[": '[', "\\]": ']', "\\&": '&', "\\$": '$', "\\#": '#', "\\^": '^', "\\\\": '\\', "\\{": '{', "\\~": '~', "\\!": '!',
	}
	for x, low := range ends {
		expect(t, "["+x+"]", tok(13, "", 0, 0, 0), tok(15, "", low, low, 1), tok(14, "", 0, 0, len(x)+1))
		for y, high := range ends {
			s := "[" + x + "-" + y
			if low > high {
				refuse(t, s+"]", 1, api.ErrRange)
				refuse(t, s, 1, api.ErrRange)
				refuse(t, "\u00d7[ "+x+"-"+y+"-]", 4, api.ErrRange)
				continue
			}
			expect(t, s+"]", tok(13, "", 0, 0, 0), tok(15, "", low, high, 1), tok(14, "", 0, 0, len(s)))
			refuse(t, s+"-]", len(s), api.ErrSign)
		}
	}
	expect(t, "[a-a]", tok(13, "", 0, 0, 0), tok(15, "", 'a', 'a', 1), tok(14, "", 0, 0, 4))
	expect(t, "[a-cb]", tok(13, "", 0, 0, 0), tok(15, "", 'a', 'c', 1), tok(15, "", 'b', 'b', 4), tok(14, "", 0, 0, 5))
	// A blank and a tab are let be between tokens alone: within one they are characters as others.
	expect(t, "[\\u{1}- ]", tok(13, "", 0, 0, 0), tok(15, "", 1, ' ', 1), tok(14, "", 0, 0, 8))
	expect(t, "[\\u{1}-\t]", tok(13, "", 0, 0, 0), tok(15, "", 1, '\t', 1), tok(14, "", 0, 0, 8))
	refuse(t, "[a- b]", 1, api.ErrRange)
	refuse(t, "[z-a]", 1, api.ErrRange)
	refuse(t, "[ab-a]", 2, api.ErrRange)
}

// P5.1: what a range may not end with.
func TestEndsOfRanges(t *testing.T) {
	for _, x := range []string{"[", "]", "&", "-", "$", "#", "^", "\n"} {
		for _, low := range []string{"a", "z", "\\u{10ffff}", "\u20ac", "\\-"} {
			s := "[" + low + "-" + x
			refuse(t, s, len(low)+2, api.ErrSign)
			refuse(t, s+"]", len(low)+2, api.ErrSign)
			refuse(t, s+"z]", len(low)+2, api.ErrSign)
		}
	}
	refuse(t, "[a-\\q]", 3, api.ErrEscape)
	refuse(t, "[z-\\q", 3, api.ErrEscape)
	refuse(t, "[a-\\\n]", 3, api.ErrEscape)
	refuse(t, "[z-\\u{110000}]", 3, api.ErrEscape)
	refuse(t, "[\u20ac-\\u{6", 9, api.ErrEnd)
	refuse(t, "[z-\\", 4, api.ErrEnd)
	refuse(t, "[z-", 3, api.ErrEnd)
}

// P5.1: texts that end too early, and escapes that are none.
func TestEndsAndEscapes(t *testing.T) {
	for _, s := range []string{"[", "[^", "[a", "[a-", "[a-c", "[$a", "[$a-", "[a&", "[[a]", "[[", "[] [", "[ ", "[a\t", "[\u20ac", "\u00d7[\u20ac-", "[\\", "[\\u", "[\\u{", "[\\u{4", "[\\u{41", "[\\u{10ffff", "[\\u{110000", "[\\u{ffffff", "[a\\", "[a-\\", "[a-\\u{", "[\\n", "[\\]", "[\\u{41}", "[$abcdefghijklmnop"} {
		refuse(t, s, len(s), api.ErrEnd)
	}
	for _, x := range []string{"\\q", "\\a", "\\N", "\\0", "\\U", "\\ ", "\\\n", "\\\t", "\\\x7f", "\\\u00d7", "\\u]", "\\u4", "\\u{}", "\\u{g}", "\\u{4]", "\\u{4 1}", "\\u{0000041}", "\\u{1234567", "\\u{110000}", "\\u{ffffff}", "\\u{-1}", "\\ua"} {
		refuse(t, "["+x, 1, api.ErrEscape)
		refuse(t, "[a "+x+"]", 3, api.ErrEscape)
		refuse(t, "[\u20ac-"+x+"]", 5, api.ErrEscape)
		refuse(t, "[$a]\n["+x+"-a]", 6, api.ErrEscape)
	}
	refuse(t, "\\n", 0, api.ErrSign)
	refuse(t, "[a]\\", 3, api.ErrSign)
}

// P5.1: each character below 2000 (hexadecimal), and some above, outside of sets and in one.
func TestEachCharacter(t *testing.T) {
	one := map[string]bool{" ": true, "\t": true, "#": true}
	for s := range signs() {
		one[s] = true
	}
	for _, c := range append(slices.Collect(upTo(0x2000)), 0x2028, 0x20ac, 0x221a, 0xd7ff, 0xe000, 0xfeff, 0xff04, 0xfffd, 0xffff, 0x10000, 0x1f600, api.Top) {
		x := string(rune(c))
		e := check(t, x)
		if wantRight := one[x] || c >= '0' && c <= '9'; c != '[' && (e == api.OK) != wantRight {
			t.Errorf("%q: %d", x, e)
		}
		check(t, "$a"+x)
		check(t, "["+x+"]")
		check(t, "[a"+x+"]")
		check(t, "[\\u{0}-"+x+"]")
		check(t, "["+x+"-\u20ac]")
		check(t, "[\\"+x+"]")
		check(t, "[$a"+x+"b]")
		check(t, "#allow a"+x)
		check(t, "#allow"+x)
		check(t, "3.4"+x)
	}
}

// upTo: whole numbers from 0 on.
func upTo(n int) func(func(int) bool) {
	return func(yield func(int) bool) {
		for c := range n {
			if !yield(c) {
				return
			}
		}
	}
}

// P5.1: too many bytes, and bytes that are no character's, go ahead of all that is wrong in characters.
func TestBytes(t *testing.T) {
	refuse(t, strings.Repeat(" ", 3001), 0, api.ErrLong)
	refuse(t, strings.Repeat("\u00d7", 1500)+" ", 0, api.ErrLong)
	refuse(t, strings.Repeat("\xff", 3001), 0, api.ErrLong)
	refuse(t, "]"+strings.Repeat(" ", 3000), 0, api.ErrLong)
	refuse(t, "a\xff", 1, api.ErrBytes)
	refuse(t, "[$\u20ac\\q\xc3", 7, api.ErrBytes)
	refuse(t, "# note \xed\xa0\x80", 7, api.ErrBytes)
	refuse(t, "$a \xc0\x80", 3, api.ErrBytes)
	refuse(t, strings.Repeat(" ", 2999)+"\x80", 2999, api.ErrBytes)
	expect(t, strings.Repeat(" ", 3000))
	expect(t, strings.Repeat(" ", 2999)+"=", tok(3, "", 0, 0, 2999))
	if l, at, e := word.Of([]byte(strings.Repeat("\u00d7", 1500))); len(l) != 1500 || at != -1 || e != api.OK || l[1499] != tok(4, "", 0, 0, 2998) {
		t.Error(len(l), at, e)
	}
	refuse(t, "["+strings.Repeat("a", 2999), 3000, api.ErrEnd)
}

// P5.1: the first thing that is wrong is told, from the first character on.
func TestFirstWrong(t *testing.T) {
	refuse(t, "$ 03", 0, api.ErrSign)
	refuse(t, "1234 $", 0, api.ErrLong)
	refuse(t, "[z-a\\q", 1, api.ErrRange)
	refuse(t, "[\\q z-a]", 1, api.ErrEscape)
	refuse(t, "$abcdefghijklmnopq 03", 0, api.ErrLong)
	refuse(t, "#allow X\n$", 0, api.ErrSign)
	refuse(t, "3 $a \u00d7 $b\n[", 12, api.ErrEnd)
	refuse(t, "[a-c-", 4, api.ErrSign)
}

// textsOf: all texts of at most so many of some parts.
func textsOf(most int, parts ...string) []string {
	all := []string{""}
	from := 0
	for range most {
		to := len(all)
		for _, s := range all[from:to] {
			for _, p := range parts {
				all = append(all, s+p)
			}
		}
		from = to
	}
	return all
}

// P5.1, P5.2: all short texts of what tells tokens apart.
func TestAllShortTexts(t *testing.T) {
	met := map[api.Errno]int{}
	for _, s := range textsOf(4, "[", "]", "-", "a", "$", "^", " ", "\\", "#", "\n", "&", "0", ".", "\u00d7") {
		met[check(t, s)]++
		met[check(t, "["+s)]++
		met[check(t, "[$a"+s+"]")]++
	}
	for _, s := range textsOf(6, "[", "]", "-", "a", "$b") {
		met[check(t, s)]++
		met[check(t, "["+s+"]")]++
	}
	for _, s := range textsOf(6, "\\", "u", "{", "}", "1") {
		met[check(t, "["+s)]++
		met[check(t, "["+s+"]")]++
	}
	for _, e := range []api.Errno{api.OK, api.ErrSign, api.ErrEnd, api.ErrEscape, api.ErrRange} {
		if met[e] < 100 {
			t.Errorf("error %d met %d times", e, met[e])
		}
	}
}

// manyOf: a text that hangs on its seed alone, most of its parts right where they stand.
func manyOf(seed uint32) string {
	outside := []string{"$a", "$Name_16", "$abcdefghijklmnop", "$abcdefghijklmnopq", "3", "12.5", "999.999", "0.007", "1234", "1.2345", "03", "=", "\u00d7", "\u00f7", "(", ")", "|", "*", "+", "?", ".", "\n", " ", "\t", " # note\n", "#allow dead\n", "#allow dead 3.1\n", "#allow Dead\n", "[", "[^", "[", "[", "[", "x"}
	within := []string{"a", "b-d", "z-a", "\u20ac", "\\u{41}", "\\u{d800}-\\u{dfff}", "\\n", "\\-", "\\q", "\\u{110000}", "$a", "$b-", "[", "[^", "]", "]", "]", "]", "]-", "&", "-", " ", "\t", "\n", "#", "\u00d7", "=", "3", "^"}
	next := func(n int) int {
		seed = seed*1664525 + 1013904223
		return int(seed>>8) % n
	}
	var s strings.Builder
	open := 0
	for range 1 + next(25) {
		parts := outside
		if open > 0 {
			parts = within
		}
		p := parts[next(len(parts))]
		// What is wrong is left out most times, so that texts go on behind it.
		if _, _, e := tokensOf(s.String() + p); e != api.OK && e != api.ErrEnd && next(16) > 0 {
			continue
		}
		open += strings.Count(p, "[") - strings.Count(p, "]")
		s.WriteString(p)
	}
	if next(8) > 0 {
		s.WriteString(strings.Repeat("]", max(open, 0)))
	}
	return s.String()
}

// P5.1, P5.2: Of against the document's words on many texts.
func TestManyTexts(t *testing.T) {
	met := map[api.Errno]int{}
	for seed := range uint32(20000) {
		met[check(t, manyOf(seed))]++
	}
	for _, e := range []api.Errno{api.OK, api.ErrSign, api.ErrLong, api.ErrEnd, api.ErrEscape, api.ErrRange} {
		if met[e] < 50 {
			t.Errorf("error %d met %d times", e, met[e])
		}
	}
}

// What is handed in isn't changed, its spare room neither read nor changed; an answer is its own memory.
func TestWhatIsHandedInStays(t *testing.T) {
	const text = "$ab=[c-e]\n#allow dead 3 "
	whole := []byte(text)
	b := whole[:len(text)-1]
	l, at, e := word.Of(b)
	if e != api.OK || at != -1 || string(whole) != text {
		t.Fatalf("%v %d %d %q", l, at, e, whole)
	}
	if l2, _, e := word.Of(whole[:2]); e != api.OK || !slices.Equal(l2, []api.Token{tok(1, "a", 0, 0, 0)}) {
		t.Error(l2, e)
	}
	refuse(t, string(whole[:7]), 7, api.ErrEnd)
	if _, at, e := word.Of(whole[:7]); at != 7 || e != api.ErrEnd {
		t.Error(at, e)
	}
	want := slices.Clone(l)
	for i := range whole {
		whole[i] = 'x'
	}
	if !slices.Equal(l, want) || l[0].Text != "ab" {
		t.Error("an answer changed with its argument:", l)
	}
	again, _, _ := word.Of([]byte(text[:len(text)-1]))
	for i := range again[:cap(again)] {
		again[:cap(again)][i] = api.Token{Kind: -1}
	}
	if !slices.Equal(l, want) {
		t.Error("two answers share memory")
	}
}
