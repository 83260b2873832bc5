package quote_test

import (
	"fmt"
	"math"
	"regexp"
	"slices"
	"strconv"
	"strings"
	"testing"

	"caesura/api"
	"caesura/quote"
)

// plain: letters and digits, each one written down.
const plain = "abcdefghijklmnopqrstuvwxyzABCDEFGHIJKLMNOPQRSTUVWXYZ0123456789"

// marks: what may stand behind \ for itself.
const marks = "!\"#$%&'()*+,-./:;<=>?@[\\]^_`{|}~"

// isPlain: the words of the document for a letter or a digit.
func isPlain(c int) bool { return c >= 0 && c < 0x80 && strings.ContainsRune(plain, rune(c)) }

// textOf: the words of the document for a character that is written out.
func textOf(c int) string {
	if isPlain(c) {
		return string([]byte{byte(c)})
	}
	return fmt.Sprintf("\\u{%x}", c)
}

// chars: a Go text's characters.
func chars(s string) []int {
	var l []int
	for _, r := range s {
		l = append(l, int(r))
	}
	return l
}

// none: numbers that are no character's, some of them one's lower bits.
func none() []int {
	return []int{-1, -2, -'a', api.Top + 1, api.Top + 2, 0x1fffff, math.MinInt8, math.MinInt32, math.MaxInt32, math.MinInt, math.MaxInt, 1 << 32, 1<<32 + 'a', 1<<40 + '\\', -1<<32 + '7'}
}

// whole, begun: the texts that are read as one character, up to their size, and those that such a text begins with.
var (
	whole = regexp.MustCompile("(?s)^(?:[^\\\\]|\\\\[nt!-/:-@\\[-`{-~]|\\\\u\\{([0-9a-fA-F]{1,6})\\})$")
	begun = regexp.MustCompile(`^(?:|\\|\\u|\\u\{[0-9a-fA-F]{0,6})$`)
)

// valueOf: the character that a text, that is whole, is read as; -1, if it is more than Top.
func valueOf(s string) int {
	runes := []rune(s)
	switch {
	case len(runes) == 1:
		return int(runes[0])
	case s == `\n`:
		return 0xa
	case s == `\t`:
		return 0x9
	case len(runes) == 2:
		return int(runes[1])
	}
	n, _ := strconv.ParseInt(whole.FindStringSubmatch(s)[1], 16, 64)
	if n > 0x10ffff {
		return -1
	}
	return int(n)
}

// readOf: the words of the document for Read, of a text from its beginning on.
func readOf(s string) (c, size int, e api.Errno) {
	runes := []rune(s)
	for n := range len(runes) + 1 {
		ahead := string(runes[:n])
		if whole.MatchString(ahead) {
			if c := valueOf(ahead); c >= 0 {
				return c, n, api.OK
			}
			return 0, 0, api.ErrEscape
		}
		if !begun.MatchString(ahead) {
			return 0, 0, api.ErrEscape
		}
	}
	return 0, 0, api.ErrEnd
}

// checkRead: Read of a text, alone and with others ahead of its place.
func checkRead(t *testing.T, s string, c, size int, e api.Errno) {
	t.Helper()
	for _, ahead := range []string{"", "a", `\`, `\u{4`, "\n\u00d7\U0010ffff"} {
		at := len(chars(ahead))
		next := at
		if e == api.OK {
			next += size
		}
		if gotC, gotNext, gotE := quote.Read(chars(ahead+s), at); gotC != c || gotNext != next || gotE != e {
			t.Fatalf("%q behind %q: %x %d %d, not %x %d %d", s, ahead, gotC, gotNext, gotE, c, next, e)
		}
	}
}

// P4.1, P4.2: each character there is, written out, and read again.
func TestEachCharacter(t *testing.T) {
	of := map[string]int{}
	for c := range api.Top + 1 {
		want := textOf(c)
		s, e := quote.Text(c)
		if e != api.OK || s != want {
			t.Fatalf("%x: %q %d, not %q", c, s, e, want)
		}
		if quote.Plain(c) != isPlain(c) {
			t.Fatalf("Plain of %x", c)
		}
		if other, there := of[s]; there {
			t.Fatalf("%q is %x's and %x's", s, other, c)
		}
		of[s] = c
		if back, next, e := quote.Read(chars(s), 0); e != api.OK || back != c || next != len(s) {
			t.Fatalf("%q: %x %d %d", s, back, next, e)
		}
		if l, e := quote.Parse(s); e != api.OK || !slices.Equal(l, []int{c}) {
			t.Fatalf("%q: %x %d", s, l, e)
		}
	}
}

// P4.1: the edges, with their texts written down here.
func TestEdgesWrittenOut(t *testing.T) {
	for c, want := range map[int]string{
		0: `\u{0}`, 1: `\u{1}`, 9: `\u{9}`, 0xa: `\u{a}`, 0xf: `\u{f}`, 0x10: `\u{10}`, 0x20: `\u{20}`, 0x21: `\u{21}`,
		'/': `\u{2f}`, '0': "0", '1': "1", '8': "8", '9': "9", ':': `\u{3a}`,
		'@': `\u{40}`, 'A': "A", 'B': "B", 'Y': "Y", 'Z': "Z", '[': `\u{5b}`, '\\': `\u{5c}`, '_': `\u{5f}`,
		'`': `\u{60}`, 'a': "a", 'b': "b", 'u': "u", 'y': "y", 'z': "z", '{': `\u{7b}`, '}': `\u{7d}`, 0x7e: `\u{7e}`, 0x7f: `\u{7f}`, 0x80: `\u{80}`,
		0xaa: `\u{aa}`, 0xc1: `\u{c1}`, 0x660: `\u{660}`, 0xff21: `\u{ff21}`,
		0xd7ff: `\u{d7ff}`, 0xd800: `\u{d800}`, 0xdfff: `\u{dfff}`, 0xe000: `\u{e000}`, 0xfffd: `\u{fffd}`, 0xfffff: `\u{fffff}`, 0x100000: `\u{100000}`, api.Top: `\u{10ffff}`,
	} {
		if s, e := quote.Text(c); e != api.OK || s != want {
			t.Errorf("%x: %q %d, not %q", c, s, e, want)
		}
		if quote.Plain(c) != (len(want) == 1) {
			t.Errorf("Plain of %x", c)
		}
	}
	if s, e := quote.Texts([]int{'a', 0xa, 0xd800}); e != api.OK || s != `a\u{a}\u{d800}` {
		t.Errorf("%q %d", s, e)
	}
}

// P4.1: numbers that are no character's, alone and wherever they stand.
func TestNoCharacter(t *testing.T) {
	for _, c := range none() {
		if s, e := quote.Text(c); e != api.ErrArg || s != "" {
			t.Errorf("%x: %q %d", c, s, e)
		}
		if quote.Plain(c) {
			t.Errorf("Plain of %x", c)
		}
		for _, l := range [][]int{{c}, {'a', c}, {c, 'a'}, {0, c, api.Top}, {c, c}} {
			if s, e := quote.Texts(l); e != api.ErrArg || s != "" {
				t.Errorf("%x: %q %d", l, s, e)
			}
		}
		// None of what is read goes on with it, wherever it stands.
		for _, ahead := range []string{"", `\`, `\u`, `\u{`, `\u{4`, `\u{10fff`, `\u{10ffff`, `\u{110000`} {
			l := append(chars(ahead), c, '}')
			if got, next, e := quote.Read(l, 0); got != 0 || next != 0 || e != api.ErrEscape {
				t.Errorf("%x: %x %d %d", l, got, next, e)
			}
		}
		if got, next, e := quote.Read([]int{c, 'b', c}, 1); got != 'b' || next != 2 || e != api.OK {
			t.Errorf("beside %x: %x %d %d", c, got, next, e)
		}
	}
}

// P4.1: no character at all.
func TestNothing(t *testing.T) {
	for _, l := range [][]int{nil, {}} {
		if s, e := quote.Texts(l); e != api.OK || s != "" {
			t.Errorf("%q %d", s, e)
		}
		if c, next, e := quote.Read(l, 0); c != 0 || next != 0 || e != api.ErrEnd {
			t.Error(c, next, e)
		}
	}
	if l, e := quote.Parse(""); e != api.OK || len(l) != 0 {
		t.Error(l, e)
	}
}

// P4.1: places that there are, and such that there aren't, which go ahead of whatever stands there.
func TestPlaces(t *testing.T) {
	for _, s := range []string{"", "a", "abc", `\`, `\q`, `\u{41}`} {
		l := chars(s)
		for _, at := range []int{-1, -2, math.MinInt, len(l) + 1, len(l) + 2, math.MaxInt} {
			if c, next, e := quote.Read(l, at); c != 0 || next != at || e != api.ErrArg {
				t.Errorf("%q at %d: %x %d %d", s, at, c, next, e)
			}
		}
		if c, next, e := quote.Read(l, len(l)); c != 0 || next != len(l) || e != api.ErrEnd {
			t.Errorf("%q at its end: %x %d %d", s, c, next, e)
		}
	}
	// x, an escape, a tab's, and a \ that ends it: from within an escape on it is read otherwise.
	l := chars(`x\u{41}\t\`)
	for at, want := range []struct {
		c, next int
		e       api.Errno
	}{
		{'x', 1, api.OK}, {'A', 7, api.OK}, {'u', 3, api.OK}, {'{', 4, api.OK}, {'4', 5, api.OK}, {'1', 6, api.OK}, {'}', 7, api.OK},
		{'\t', 9, api.OK}, {'t', 9, api.OK}, {0, 9, api.ErrEnd}, {0, 10, api.ErrEnd},
	} {
		if c, next, e := quote.Read(l, at); c != want.c || next != want.next || e != want.e {
			t.Errorf("at %d: %x %d %d", at, c, next, e)
		}
	}
}

// P4.1: what is read, with the answers written down here.
func TestReadWrittenOut(t *testing.T) {
	for s, want := range map[string]struct{ c, size int }{
		"a": {'a', 1}, "ab": {'a', 1}, " ": {' ', 1}, "\n": {0xa, 1}, "\t": {9, 1}, "\x00": {0, 1}, "[": {'[', 1}, "{": {'{', 1}, "}": {'}', 1}, "u{41}": {'u', 1},
		"\x7f": {0x7f, 1}, "\u00d7": {0xd7, 1}, "\ufffd": {0xfffd, 1}, "\U0010ffff\\": {api.Top, 1},
		`\n`: {0xa, 2}, `\t`: {9, 2}, `\nn`: {0xa, 2}, `\\`: {'\\', 2}, `\\n`: {'\\', 2}, `\!`: {0x21, 2}, `\~`: {0x7e, 2}, `\{`: {'{', 2}, `\}`: {'}', 2}, `\_`: {'_', 2},
		`\/`: {'/', 2}, `\:`: {':', 2}, `\@`: {'@', 2}, `\[`: {'[', 2}, "\\`": {'`', 2},
		`\u{0}`: {0, 5}, `\u{9}`: {9, 5}, `\u{a}`: {0xa, 5}, `\u{A}`: {0xa, 5}, `\u{f}`: {0xf, 5}, `\u{F}`: {0xf, 5}, `\u{41}41}`: {'A', 6}, `\u{00dF}`: {0xdf, 8},
		`\u{000000}`: {0, 10}, `\u{000041}`: {'A', 10}, `\u{00d800}`: {0xd800, 10}, `\u{DFFF}`: {0xdfff, 8}, `\u{aBcDe}`: {0xabcde, 9},
		`\u{fffff}`: {0xfffff, 9}, `\u{10ffff}`: {api.Top, 10}, `\u{10FFFF}`: {api.Top, 10}, `\u{5c}n`: {'\\', 6},
	} {
		checkRead(t, s, want.c, want.size, api.OK)
	}
	// D800 to DFFF stand as themselves, too; no Go text has them.
	for _, c := range []int{0xd800, 0xdbff, 0xdc00, 0xdfff} {
		if got, next, e := quote.Read([]int{'a', c, 'b'}, 1); got != c || next != 2 || e != api.OK {
			t.Errorf("%x: %x %d %d", c, got, next, e)
		}
		for _, ahead := range []string{`\`, `\u`, `\u{`, `\u{1`} {
			if got, next, e := quote.Read(append(chars(ahead), c), 0); got != 0 || next != 0 || e != api.ErrEscape {
				t.Errorf("%x behind %q: %x %d %d", c, ahead, got, next, e)
			}
		}
	}
}

// P4.1: what can't be read: a character with which nothing goes on, ahead of an end that comes too early.
func TestUnread(t *testing.T) {
	for _, s := range []string{
		`\ `, "\\\n", "\\\t", "\\\x00", "\\\x1f", "\\\x7f", "\\\u0080", "\\\u00e9", "\\\U0010ffff", `\a`, `\b`, `\m`, `\o`, `\r`, `\s`, `\v`, `\z`, `\N`, `\T`, `\U`, `\A`, `\Z`, `\0`, `\9`, `\x41`,
		`\u4`, `\u41}`, `\uu`, `\u}`, `\u\`, `\u `, `\u(41)`, `\u[`, `\u|`, `\U{41}`,
		`\u{}`, `\u{}41}`, `\u{g`, `\u{g}`, `\u{G}`, `\u{/}`, `\u{:}`, `\u{@}`, "\\u{`}", `\u{ 41}`, `\u{41 }`, `\u{-1}`, `\u{+1}`, `\u{4_1}`, `\u{0x41}`, `\u{41\`, `\u{41{`, `\u{4g`, "\\u{4\u0661}",
		`\u{110000}`, `\u{110000}x`, `\u{11ffff}`, `\u{200000}`, `\u{FFFFFF}`, `\u{999999}`, `\u{110000g`, `\u{110000{`,
		`\u{0000041}`, `\u{0000000}`, `\u{10ffff0`, `\u{10ffff0}`, `\u{0000000`, `\u{1100000`, `\u{00000041}`, `\u{` + strings.Repeat("0", 1000) + `}`,
	} {
		checkRead(t, s, 0, 0, api.ErrEscape)
	}
	for _, s := range []string{
		"", `\`, `\u`, `\u{`, `\u{0`, `\u{4`, `\u{41`, `\u{D800`, `\u{fffff`, `\u{10ffff`, `\u{000000`,
		`\u{110000`, `\u{ffffff`, // what is more than Top is told at the }
	} {
		checkRead(t, s, 0, 0, api.ErrEnd)
	}
}

// P4.1: each one behind \, and each one behind \u{ and a digit.
func TestEachBehindEscape(t *testing.T) {
	for c := range 0x200 {
		s := string(rune(c))
		want, e := 0, api.ErrEscape
		switch {
		case c < 0x80 && strings.ContainsRune(marks, rune(c)):
			want, e = c, api.OK
		case c == 'n':
			want, e = 0xa, api.OK
		case c == 't':
			want, e = 0x9, api.OK
		case c == 'u':
			e = api.ErrEnd
		}
		checkRead(t, `\`+s, want, 2, e)
		want, e = 0, api.ErrEscape
		if n, err := strconv.ParseUint(s, 16, 8); err == nil {
			want, e = 0x10+int(n), api.OK
		}
		size := 6
		if c == '}' {
			want, e, size = 1, api.OK, 5
		}
		checkRead(t, `\u{1`+s+`}`, want, size, e)
	}
}

// each: all texts of at most n of some characters, behind one.
func each(s string, some []string, n int, tell func(s string)) {
	tell(s)
	if n == 0 {
		return
	}
	for _, c := range some {
		each(s+c, some, n-1, tell)
	}
}

// P4.1: Read of all short texts, against the document's words.
func TestReadOfMany(t *testing.T) {
	check := func(s string) {
		c, size, e := readOf(s)
		checkRead(t, s, c, size, e)
	}
	each("", []string{`\`, "u", "{", "}", "0", "a", "F", "g", "n", "t", " ", "\u00d7"}, 4, check)
	each(`\u{`, []string{"0", "1", "f", "}"}, 7, check)
	each(`\u{10fff`, []string{"0", "f", "F", "g", "}", `\`}, 3, check)
}

// P4.1: what reads well, but isn't written so; what doesn't read; bytes that are no character's, or another's.
func TestParseOfOthers(t *testing.T) {
	for _, s := range []string{
		`\u{61}`, `\u{41}`, `\u{5A}`, `\u{5a}`, `\u{7a}`, `\u{30}`, `\u{39}`, `\u{0a}`, `\u{00}`, `\u{00000a}`, `\u{0d800}`, `\u{010fff}`, `\u{A}`, `\u{D800}`, `\u{10FFFF}`, `\u{10fffF}`,
		`\n`, `\t`, `\\`, `\[`, `\!`, `\~`, `\_`, ` `, "\n", "\t", "\x00", "\x7f", "_", "-", "[", "{", "}", "$", "~", "/", ":", "@", "`",
		`\`, `\u`, `\u{`, `\u{a`, `\u{}`, `\u{g}`, `\u{110000}`, `\u{ffffff}`, `\u{000000a}`, `\a`, `\ `, `\U{a}`, `\x`,
		"\u00e9", "\u00d7", "\ufffd", "\U0010ffff", "\x80", "\xbf", "\xc3", "\xe9", "\xff", "\xe2\x82", "\xc0\x80", "\xed\xa0\x80", "\xf4\x90\x80\x80", "\u0430", "\uff41", "\\u{\xff}", "\\\xc3", "\\\u00d7",
	} {
		for _, around := range [][2]string{{"", ""}, {"a", ""}, {"", "a"}, {`Z\u{a}`, `\u{10ffff}9`}} {
			if l, e := quote.Parse(around[0] + s + around[1]); e != api.ErrForm || len(l) != 0 {
				t.Errorf("%q in %q: %x %d", s, around, l, e)
			}
		}
	}
	for s, want := range map[string][]int{
		"a": {'a'}, "azAZ09": chars("azAZ09"), "u": {'u'}, "n": {'n'}, `\u{a}`: {0xa}, `\u{5c}n`: {'\\', 'n'}, `\u{0}\u{0}`: {0, 0}, `\u{d800}\u{dc00}`: {0xd800, 0xdc00}, `a\u{10ffff}b`: {'a', api.Top, 'b'},
		`\u{5c}u\u{7b}a\u{7d}`: chars(`\u{a}`), `\u{e9}e9`: {0xe9, 'e', '9'},
	} {
		if l, e := quote.Parse(s); e != api.OK || !slices.Equal(l, want) {
			t.Errorf("%q: %x %d, not %x", s, l, e, want)
		}
	}
}

// P4.1, P4.2: of all short texts Parse takes those that Texts writes of some characters, and no other.
func TestParseOfMany(t *testing.T) {
	taken, refused := 0, 0
	check := func(s string) {
		// As readOf goes on, piece by piece: right, if all that is read is written as it stood.
		var want []int
		right := true
		for rest := s; rest != ""; {
			c, size, e := readOf(rest)
			piece := rest[:len(string([]rune(rest)[:size]))]
			if right = e == api.OK && piece == textOf(c); !right {
				break
			}
			want, rest = append(want, c), rest[len(piece):]
		}
		l, e := quote.Parse(s)
		if !right {
			if refused++; e != api.ErrForm || len(l) != 0 {
				t.Fatalf("%q: %x %d", s, l, e)
			}
			return
		}
		if taken++; e != api.OK || !slices.Equal(l, want) {
			t.Fatalf("%q: %x %d, not %x", s, l, e, want)
		}
		if back, e := quote.Texts(l); e != api.OK || back != s {
			t.Fatalf("%q: %q %d", s, back, e)
		}
	}
	each("", []string{`\u{`, "}", `\`, "0", "a", "A", "f", "6", "n", "[", "\u00e9"}, 5, check)
	each(`b\u{`, []string{"0", "1", "f", "}"}, 7, check)
	if taken < 1000 || refused < 1000 {
		t.Error(taken, "taken,", refused, "refused")
	}
}

// some: a list of characters that hangs on its seed alone.
func some(seed uint32) []int {
	edges := []int{0, 9, 0xa, 0x20, 0x21, '/', '0', '9', ':', '@', 'A', 'F', 'Z', '[', '\\', '`', 'a', 'f', 'n', 't', 'u', 'z', '{', '}', 0x7e, 0x7f, 0xff, 0xd800, 0xdfff, 0xfffff, api.Top}
	var l []int
	for range seed % 8 {
		seed = seed*1664525 + 1013904223
		c := edges[int(seed>>8)%len(edges)]
		if seed>>30 == 0 {
			c = int(seed>>4) % (api.Top + 1)
		}
		l = append(l, c)
	}
	return l
}

// P4.2: lists are read as they were, by Parse and by Read, piece by piece; no two lists are written alike.
func TestThereAndBack(t *testing.T) {
	of := map[string][]int{}
	for seed := range uint32(20000) {
		l := some(seed)
		var want strings.Builder
		for _, c := range l {
			want.WriteString(textOf(c))
		}
		s, e := quote.Texts(l)
		if e != api.OK || s != want.String() {
			t.Fatalf("%x: %q %d, not %q", l, s, e, want.String())
		}
		if other, there := of[s]; there && !slices.Equal(other, l) {
			t.Fatalf("%q is %x's and %x's", s, other, l)
		}
		of[s] = l
		if back, e := quote.Parse(s); e != api.OK || !slices.Equal(back, l) {
			t.Fatalf("%q: %x %d", s, back, e)
		}
		at := 0
		for _, c := range l {
			got, next, e := quote.Read(chars(s), at)
			if e != api.OK || got != c || next != at+len(textOf(c)) {
				t.Fatalf("%q at %d: %x %d %d", s, at, got, next, e)
			}
			at = next
		}
		if at != len(s) {
			t.Fatalf("%q is read up to %d", s, at)
		}
	}
}

// P4.1: the chapter names no limit of characters or bytes, so long lists are told whole.
func TestNoLimit(t *testing.T) {
	for _, c := range []int{'a', 0xa, api.Top} {
		l := slices.Repeat([]int{c}, 3001)
		s, e := quote.Texts(l)
		if e != api.OK || s != strings.Repeat(textOf(c), 3001) {
			t.Fatalf("%x: %d bytes, %d", c, len(s), e)
		}
		if back, e := quote.Parse(s); e != api.OK || !slices.Equal(back, l) {
			t.Errorf("%x: %d characters, %d", c, len(back), e)
		}
		if l, e := quote.Parse(s + " "); e != api.ErrForm || len(l) != 0 {
			t.Errorf("%x and a blank: %d characters, %d", c, len(l), e)
		}
		at := len(s) - len(textOf(c))
		if got, next, e := quote.Read(chars(s), at); got != c || next != len(s) || e != api.OK {
			t.Errorf("%x at %d: %x %d %d", c, at, got, next, e)
		}
	}
	if s, e := quote.Texts(append(slices.Repeat([]int{'a'}, 9000), -1)); e != api.ErrArg || s != "" {
		t.Error(len(s), e)
	}
}

// Rules 5 and 6: what is handed in is left as it is, with its room behind it, which isn't read either; what is answered is its own.
func TestArgumentsAreLeft(t *testing.T) {
	room := chars(`a\u{41}b\u{q`)
	l := room[:8]
	kept := slices.Clone(room)
	for at := range len(l) + 1 {
		quote.Read(l, at)
	}
	quote.Texts(l)
	if !slices.Equal(room, kept) {
		t.Errorf("%x, not %x", room, kept)
	}
	// The room behind the place at which the list ends would make it whole.
	if c, next, e := quote.Read(room[:6], 1); c != 0 || next != 1 || e != api.ErrEnd {
		t.Errorf("%x %d %d", c, next, e)
	}
	one, _ := quote.Parse("abc")
	two, _ := quote.Parse("abc")
	one[0] = 'x'
	if two[0] != 'a' {
		t.Error("two answers share memory")
	}
}
