package byte8_test

import (
	"bytes"
	"math"
	"slices"
	"strings"
	"testing"

	"caesura/api"
	"caesura/byte8"
)

// bytesOf: the words of the document for a character's bytes; none of what has none.
func bytesOf(c int) []byte {
	switch {
	case c < 0 || c > 0x10ffff || c >= 0xd800 && c <= 0xdfff:
		return nil
	case c < 0x80:
		return []byte{byte(c)}
	case c < 0x800:
		return []byte{byte(0xc0 + c/64), byte(0x80 + c%64)}
	case c < 0x10000:
		return []byte{byte(0xe0 + c/4096), byte(0x80 + c/64%64), byte(0x80 + c%64)}
	}
	return []byte{byte(0xf0 + c/262144), byte(0x80 + c/4096%64), byte(0x80 + c/64%64), byte(0x80 + c%64)}
}

// firstOf: the character whose bytes b begins with, found by trying each that its first bytes might be bits of.
func firstOf(b []byte) (c, size int) {
	for n := 1; n <= 4 && n <= len(b); n++ {
		bits := int(b[0])
		if n > 1 {
			bits = int(b[0]) & (0x7f >> n)
			for _, x := range b[1:n] {
				bits = bits*64 + int(x)&0x3f
			}
		}
		if bytes.Equal(bytesOf(bits), b[:n]) {
			return bits, n
		}
	}
	return -1, 0
}

// edges: the characters next to which something changes, those beside them, and numbers that are none.
func edges() []int {
	return []int{
		0, 1, '\n', 'a', 0x7e, 0x7f, 0x80, 0x81, 0xbf, 0xc0, 0xd7, 0xf7, 0xff, 0x100, 0x7fe, 0x7ff, 0x800, 0x801, 0xfff, 0x1000, 0x20ac,
		0xd7fe, 0xd7ff, 0xd800, 0xd801, 0xdbff, 0xdc00, 0xdffe, 0xdfff, 0xe000, 0xe001, 0xfffd, 0xfffe, 0xffff,
		0x10000, 0x10001, 0x3ffff, 0x40000, 0xfffff, 0x100000, api.Top - 1, api.Top, api.Top + 1, 0x1fffff, 0x200000,
		-1, -2, -0xd7, math.MinInt8, math.MinInt32, math.MinInt, math.MaxInt32, math.MaxInt, 1 << 32, 1<<32 + 'a', 1<<40 + 0xd7, -1<<32 + 'a',
	}
}

// P3.1, P3.2: each character there is, of its bytes and to them, alone.
func TestEachCharacter(t *testing.T) {
	for c := range api.Top + 2 {
		own := bytesOf(c)
		b, e := byte8.Encode([]int{c})
		if own == nil {
			if e != api.ErrBytes || len(b) != 0 {
				t.Fatalf("%x: %x %d", c, b, e)
			}
			continue
		}
		if e != api.OK || !bytes.Equal(b, own) {
			t.Fatalf("%x: %x %d, not %x", c, b, e, own)
		}
		if got, size := byte8.First(own); got != c || size != len(own) {
			t.Fatalf("First of %x: %x %d, not %x", own, got, size, c)
		}
		if l, at, wrong, e := byte8.Decode(own); e != api.OK || wrong != -1 || !slices.Equal(l, []int{c}) || !slices.Equal(at, []int{0, len(own)}) {
			t.Fatalf("%x: %x %d %d %d", own, l, at, wrong, e)
		}
	}
}

// P3.1: the edges that the chapter names, with their bytes written down here.
func TestEdgesWrittenOut(t *testing.T) {
	for c, own := range map[int]string{
		0: "\x00", 0x7f: "\x7f", 0x80: "\xc2\x80", 0x7ff: "\xdf\xbf", 0x800: "\xe0\xa0\x80", 0xd7ff: "\xed\x9f\xbf", 0xe000: "\xee\x80\x80",
		0xfffd: "\xef\xbf\xbd", 0xffff: "\xef\xbf\xbf", 0x10000: "\xf0\x90\x80\x80", api.Top: "\xf4\x8f\xbf\xbf", 0xd7: "\xc3\x97", 0xf7: "\xc3\xb7",
	} {
		if got, size := byte8.First([]byte(own + "x")); got != c || size != len(own) {
			t.Errorf("First of %x: %x %d", own, got, size)
		}
		if b, e := byte8.Encode([]int{c}); e != api.OK || string(b) != own {
			t.Errorf("%x: %x %d", c, b, e)
		}
		if l, at, wrong, e := byte8.Decode([]byte("a" + own + "b")); e != api.OK || wrong != -1 || !slices.Equal(l, []int{'a', c, 'b'}) || !slices.Equal(at, []int{0, 1, 1 + len(own), 2 + len(own)}) {
			t.Errorf("%x: %x %d %d %d", own, l, at, wrong, e)
		}
	}
}

// P3.1: numbers that have no bytes, wherever they stand; one whose lower bits alone are a character, too.
func TestNumbersWithoutBytes(t *testing.T) {
	for _, c := range edges() {
		own := bytesOf(c)
		for _, around := range [][2]string{{"", ""}, {"a", ""}, {"", "b"}, {"\u20ac", "\U0010ffff"}} {
			l := slices.Concat(chars(around[0]), []int{c}, chars(around[1]))
			b, e := byte8.Encode(l)
			if own == nil {
				if e != api.ErrBytes || len(b) != 0 {
					t.Errorf("%x: %x %d", l, b, e)
				}
			} else if e != api.OK || string(b) != around[0]+string(own)+around[1] {
				t.Errorf("%x: %x %d", l, b, e)
			}
		}
	}
}

// chars: a Go text's characters.
func chars(s string) []int {
	var l []int
	for _, r := range s {
		l = append(l, int(r))
	}
	return l
}

// P3.1: no byte, and no character.
func TestNothing(t *testing.T) {
	for _, none := range [][]byte{nil, {}} {
		if l, at, wrong, e := byte8.Decode(none); e != api.OK || wrong != -1 || len(l) != 0 || !slices.Equal(at, []int{0}) {
			t.Error(l, at, wrong, e)
		}
		if c, size := byte8.First(none); c != -1 || size != 0 {
			t.Error(c, size)
		}
		if line, column := byte8.Line(none, 0); line != 1 || column != 1 {
			t.Error(line, column)
		}
		for _, at := range []int{-1, 1} {
			if line, column := byte8.Line(none, at); line != 0 || column != 0 {
				t.Error(at, line, column)
			}
		}
	}
	for _, none := range [][]int{nil, {}} {
		if b, e := byte8.Encode(none); e != api.OK || len(b) != 0 {
			t.Error(b, e)
		}
	}
}

// wrongBytes: bytes that no character's bytes begin at.
func wrongBytes() []string {
	return []string{
		"\x80", "\x8f", "\xa0", "\xbf", "\xbf\x80", "\xf8", "\xf8\x88\x80\x80\x80", "\xfc\x84\x80\x80\x80\x80", "\xfe", "\xff", "\xff\xff\xff\xff", // none begins so
		"\xc3", "\xe2", "\xe2\x82", "\xef\xbf", "\xf0", "\xf0\x90", "\xf0\x90\x80", "\xf4\x8f\xbf", // they end within one
		"\xc3\x28", "\xc3\xc3", "\xc3\x7f", "\xc3\xc0\x80", "\xe2\x28\xac", "\xe2\x82\x28", "\xe2\x82\xc0", "\xe2\xc2\xac", "\xf0\x90\x80\x28", "\xf0\x90\x28\x80", "\xf0\x28\x90\x80", "\xf0\x90\x80\xff", // another goes on
		"\xc0\x80", "\xc0\xaf", "\xc1\x81", "\xc1\xbf", "\xe0\x80\x80", "\xe0\x81\xa1", "\xe0\x9f\xbf", "\xf0\x80\x80\x80", "\xf0\x82\x82\xac", "\xf0\x8f\xbf\xbf", // more bytes than its own
		"\xed\xa0\x80", "\xed\xaf\xbf", "\xed\xb0\x80", "\xed\xbf\xbf", "\xed\xa0\x80\xed\xb0\x80", "\xed\xa0\xbd\xed\xb8\x80", // D800 to DFFF
		"\xf4\x90\x80\x80", "\xf4\xbf\xbf\xbf", "\xf5\x80\x80\x80", "\xf7\xbf\xbf\xbf", // above Top
	}
}

// P3.1: the place of what is wrong is that of the first byte of it, and nothing is told beside it.
func TestWrongBytes(t *testing.T) {
	for _, s := range wrongBytes() {
		for _, ahead := range []string{"", "a", "ab\n", "\u00d7", "\u20ac\ufffd", "\U0010ffff\x00"} {
			for _, behind := range []string{"", "z", "\n\u00d7", "\xff"} {
				if behind == "" || behind[0] < 0x80 || behind[0] > 0xbf {
					b := []byte(ahead + s + behind)
					if l, at, wrong, e := byte8.Decode(b); e != api.ErrBytes || wrong != len(ahead) || len(l)+len(at) != 0 {
						t.Errorf("%x: %x %d %d %d", b, l, at, wrong, e)
					}
				}
			}
		}
		if c, size := byte8.First([]byte(s)); c != -1 || size != 0 {
			t.Errorf("First of %x: %x %d", s, c, size)
		}
	}
}

// P3.1: First of all pairs of bytes, and of all fours of those next to which something changes.
func TestFirstOfMany(t *testing.T) {
	check := func(b []byte) {
		c, size := byte8.First(b)
		if wantC, wantSize := firstOf(b); c != wantC || size != wantSize {
			t.Fatalf("%x: %x %d, not %x %d", b, c, size, wantC, wantSize)
		}
	}
	for x := range 256 {
		check([]byte{byte(x)})
		for y := range 256 {
			check([]byte{byte(x), byte(y)})
		}
	}
	some := []byte("\x00\x0aA\x7f\x80\x8f\x90\x9f\xa0\xbf\xc0\xc1\xc2\xdf\xe0\xe1\xec\xed\xee\xef\xf0\xf1\xf3\xf4\xf5\xf7\xf8\xff")
	for _, w := range some {
		for _, x := range some {
			for _, y := range some {
				check([]byte{w, x, y})
				for _, z := range some {
					check([]byte{w, x, y, z})
					check([]byte{w, x, y, z, 0x80})
				}
			}
		}
	}
}

// many: a list of characters and odd bytes that hangs on its seed alone.
func many(seed uint32) []byte {
	l := edges()
	var b []byte
	for range seed % 9 {
		seed = seed*1664525 + 1013904223
		own := bytesOf(l[int(seed>>8)%len(l)])
		if seed>>28 == 3 && len(own) > 0 {
			own[int(seed>>4)%len(own)] ^= byte(seed >> 12)
		}
		b = append(b, own...)
	}
	return b
}

// P3.1, P3.2: Decode against the document's words, on lists some of which are wrong somewhere; what is decoded is encoded to those bytes.
func TestDecodeOfMany(t *testing.T) {
	right, bad := 0, 0
	for seed := range uint32(20000) {
		b := many(seed)
		var wantChars, wantAt []int
		place := 0
		for place < len(b) {
			c, size := firstOf(b[place:])
			if size == 0 {
				break
			}
			wantChars, wantAt = append(wantChars, c), append(wantAt, place)
			place += size
		}
		l, at, wrong, e := byte8.Decode(b)
		if place < len(b) {
			bad++
			if e != api.ErrBytes || wrong != place || len(l)+len(at) != 0 {
				t.Fatalf("%x: %x %d %d %d, not wrong at %d", b, l, at, wrong, e, place)
			}
			continue
		}
		right++
		if e != api.OK || wrong != -1 || !slices.Equal(l, wantChars) || !slices.Equal(at, append(wantAt, len(b))) {
			t.Fatalf("%x: %x %d %d %d", b, l, at, wrong, e)
		}
		if back, e := byte8.Encode(l); e != api.OK || !bytes.Equal(back, b) {
			t.Fatalf("%x: %x %d", b, back, e)
		}
	}
	if right < 1000 || bad < 1000 {
		t.Error(right, "right,", bad, "wrong")
	}
}

// P3.2: what is encoded is decoded as it was, of all characters in lists as long as may be.
func TestThereAndBack(t *testing.T) {
	var l []int
	flush := func() {
		b, e := byte8.Encode(l)
		if e != api.OK {
			t.Fatal(e)
		}
		back, at, wrong, e := byte8.Decode(b)
		if e != api.OK || wrong != -1 || !slices.Equal(back, l) || len(at) != len(l)+1 {
			t.Fatalf("%x: %x %d", l, back, e)
		}
		for i, c := range l {
			if !bytes.Equal(b[at[i]:at[i+1]], bytesOf(c)) {
				t.Fatalf("%x at %d", c, at[i])
			}
		}
		l = nil
	}
	for c := range api.Top + 1 {
		if bytesOf(c) == nil {
			continue
		}
		if l = append(l, c); len(l) == 750 {
			flush()
		}
	}
	flush()
}

// P3.1: 3000 bytes are taken, one more isn't; they are counted, not the characters.
func TestLimitOfDecode(t *testing.T) {
	for i, x := range []struct {
		s     string
		e     api.Errno
		wrong int
		n     int
	}{
		{strings.Repeat("a", 2999), api.OK, -1, 2999},
		{strings.Repeat("a", 3000), api.OK, -1, 3000},
		{strings.Repeat("a", 3001), api.ErrLong, 0, 0},
		{strings.Repeat("\u00d7", 1500), api.OK, -1, 1500},
		{strings.Repeat("\u20ac", 1000), api.OK, -1, 1000},
		{strings.Repeat("\U0010ffff", 750), api.OK, -1, 750},
		{strings.Repeat("\u20ac", 1000) + "a", api.ErrLong, 0, 0},
		{strings.Repeat("\u20ac", 1001), api.ErrLong, 0, 0},
		{strings.Repeat("\xff", 3001), api.ErrLong, 0, 0},                   // too long goes ahead of wrong bytes
		{"ab\xff" + strings.Repeat("a", 2998), api.ErrLong, 0, 0},           // wherever they stand
		{strings.Repeat("a", 2999) + "\xff", api.ErrBytes, 2999, 0},         // the last one that is taken
		{strings.Repeat("a", 2999) + "\u00d7", api.ErrLong, 0, 0},           // a character over the limit
		{strings.Repeat("a", 2999) + "\u00d7"[:1], api.ErrBytes, 2999, 0},   // and a part of it
		{strings.Repeat("a", 2997) + "\xe2\x82\x28", api.ErrBytes, 2997, 0}, // not at the last byte
		{strings.Repeat("a", 100000), api.ErrLong, 0, 0},
	} {
		l, at, wrong, e := byte8.Decode([]byte(x.s))
		if e != x.e || wrong != x.wrong || len(l) != x.n {
			t.Errorf("%d: %d characters, %d, %d", i, len(l), wrong, e)
		}
		if e == api.OK && (len(at) != x.n+1 || at[x.n] != len(x.s)) || e != api.OK && len(at) != 0 {
			t.Errorf("%d: %d places", i, len(at))
		}
	}
}

// P3.1: so does Encode count bytes; what has none goes ahead of too many.
func TestLimitOfEncode(t *testing.T) {
	for i, x := range []struct {
		l []int
		e api.Errno
		n int
	}{
		{slices.Repeat([]int{'a'}, 3000), api.OK, 3000},
		{slices.Repeat([]int{'a'}, 3001), api.ErrLong, 0},
		{slices.Repeat([]int{0xd7}, 1500), api.OK, 3000},
		{slices.Repeat([]int{0xd7}, 1501), api.ErrLong, 0},
		{slices.Repeat([]int{0x20ac}, 1000), api.OK, 3000},
		{slices.Repeat([]int{0x20ac}, 1001), api.ErrLong, 0},
		{slices.Repeat([]int{api.Top}, 750), api.OK, 3000},
		{slices.Repeat([]int{api.Top}, 751), api.ErrLong, 0},
		{append(slices.Repeat([]int{api.Top}, 749), 'a', 0x20ac), api.OK, 3000},
		{append(slices.Repeat([]int{api.Top}, 749), 0xd7, 0x20ac), api.ErrLong, 0},
		{append(slices.Repeat([]int{'a'}, 3001), -1), api.ErrBytes, 0},
		{append(slices.Repeat([]int{'a'}, 9000), 0xdfff), api.ErrBytes, 0},
		{append([]int{0xd800}, slices.Repeat([]int{'a'}, 3001)...), api.ErrBytes, 0},
		{append(slices.Repeat([]int{'a'}, 2999), api.Top+1), api.ErrBytes, 0},
		{slices.Repeat([]int{math.MaxInt}, 3001), api.ErrBytes, 0},
	} {
		if b, e := byte8.Encode(x.l); e != x.e || len(b) != x.n {
			t.Errorf("%d: %d bytes, %d", i, len(b), e)
		}
	}
}

// P3.1: First and Line have no limit of bytes.
func TestNoLimitOfFirstAndLine(t *testing.T) {
	b := []byte("\u20ac" + strings.Repeat("ab\n", 3000))
	if c, size := byte8.First(b); c != 0x20ac || size != 3 {
		t.Error(c, size)
	}
	if line, column := byte8.Line(b, len(b)); line != 3001 || column != 1 {
		t.Error(line, column)
	}
	if line, column := byte8.Line(b, len(b)-1); line != 3000 || column != 3 {
		t.Error(line, column)
	}
}

// P3.1: each place of bytes, of whatever kind, by counting from the first one on.
func TestLine(t *testing.T) {
	for _, s := range []string{"", "\n", "\n\n", "a", "a\n", "\na", "ab\n\nc", "ab\ncd\nef", "a\r\nb\rc", "\u20ac\n\u00d7x", "\xff\n\x80\n\xc3", "\x0b\x0c\u0085\u2028x\n", "\x00\n\x00"} {
		b := []byte(s)
		line, column := 1, 1
		for at := range len(b) + 1 {
			if gotLine, gotColumn := byte8.Line(b, at); gotLine != line || gotColumn != column {
				t.Errorf("%q at %d: %d %d, not %d %d", s, at, gotLine, gotColumn, line, column)
			}
			column++
			if at < len(b) && b[at] == '\n' {
				line, column = line+1, 1
			}
		}
		for _, at := range []int{-1, -2, math.MinInt, len(b) + 1, len(b) + 2, math.MaxInt} {
			if line, column := byte8.Line(b, at); line != 0 || column != 0 {
				t.Errorf("%q at %d: %d %d", s, at, line, column)
			}
		}
	}
	for _, x := range [][3]int{{0, 1, 1}, {2, 1, 3}, {3, 2, 1}, {4, 3, 1}, {5, 3, 2}} {
		if line, column := byte8.Line([]byte("ab\n\nc"), x[0]); line != x[1] || column != x[2] {
			t.Error(x, line, column)
		}
	}
}

// What lies in the spare room behind the bytes is not of them.
func TestSpareRoomIsNotRead(t *testing.T) {
	whole := []byte("a\u20ac")
	b := whole[:3]
	if l, at, wrong, e := byte8.Decode(b); e != api.ErrBytes || wrong != 1 || len(l)+len(at) != 0 {
		t.Error(l, at, wrong, e)
	}
	if c, size := byte8.First(b[1:]); c != -1 || size != 0 {
		t.Error(c, size)
	}
	if line, column := byte8.Line(b, 4); line != 0 || column != 0 {
		t.Error(line, column)
	}
}

// What is handed in isn't changed, its spare room neither; answers are new memory, and no two lists of one share any.
func TestWhatIsHandedInStays(t *testing.T) {
	const text = "a\u00d7\n\u20acrest"
	b := []byte(text)
	l, at, _, _ := byte8.Decode(b[:7])
	wantAt := slices.Clone(at)
	for i := range l[:cap(l)] {
		l[:cap(l)][i] = -7
	}
	if !slices.Equal(at, wantAt) {
		t.Error("characters and places share memory")
	}
	byte8.First(b[:7])
	byte8.Line(b[:7], 5)
	if string(b) != text {
		t.Errorf("changed: %q", b)
	}
	room := []int{'a', 0xd7, 0x20ac, 77, 78}
	written, _ := byte8.Encode(room[:3])
	for i := range written {
		written[i] = 0
	}
	if again, e := byte8.Encode(room[:3]); e != api.OK || string(again) != "a\u00d7\u20ac" {
		t.Error(again, e)
	}
	if !slices.Equal(room, []int{'a', 0xd7, 0x20ac, 77, 78}) {
		t.Error(room)
	}
}
