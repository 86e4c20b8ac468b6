package crc_test

import (
	"hash/crc32"
	"slices"
	"strings"
	"testing"
	"unsafe"

	"croft/crc"
)

// stir answers n bytes that follow from the seed alone, with no pattern in them.
func stir(seed uint64, n int) string {
	out := make([]byte, n)
	for i := range out {
		seed = seed*6364136223846793005 + 1442695040888963407
		out[i] = byte(seed >> 56)
	}
	return string(out)
}

// samples are texts of all short lengths, and some of great ones.
func samples() []string {
	out := []string{
		"\x00", "\x00\x00\x00\x00", "\xff", "\xff\xff\xff\xff", "\x80", "\x01",
		"123456789", "The quick brown fox jumps over the lazy dog",
		strings.Repeat("\x00", 512), strings.Repeat("\xff", 512),
	}
	for n := range 70 {
		out = append(out, stir(uint64(n), n))
	}
	for _, n := range []int{255, 256, 257, 508, 512, 4096, 70000} {
		out = append(out, stir(7, n))
	}
	return out
}

// bitwise reckons the sum as the chapter tells it, on a register of bools, the
// lowest bit first.
func bitwise(s string) uint32 {
	var reg [32]bool
	for i := range reg {
		reg[i] = true
	}
	for i := range len(s) {
		for k := range 8 {
			out := reg[0] != (s[i]>>k&1 == 1)
			copy(reg[:], reg[1:])
			reg[31] = false
			for j := range reg {
				reg[j] = reg[j] != (out && uint32(0xedb88320)>>j&1 == 1)
			}
		}
	}
	var sum uint32
	for i, one := range reg {
		if !one {
			sum |= 1 << i
		}
	}
	return sum
}

// Promise 2.1: Sum.

func TestSumOfGivenTexts(t *testing.T) {
	for s, want := range map[string]uint32{
		"123456789": 0xcbf43926,
		"":          0,
		"a":         0xe8b7be43,
		"abc":       0x352441c2,
		"\x00":      0xd202ef8d,
		"\xff":      0xff000000,
		"The quick brown fox jumps over the lazy dog": 0x414fa339,
		"\x00\x00\x00\x00": 0x2144df1c,
		"\xff\xff\xff\xff": 0xffffffff,
	} {
		if got := crc.Sum(s); got != want {
			t.Errorf("Sum(%x) = %08x, not %08x", s, got, want)
		}
	}
}

func TestSumIsReckonedAsTheChapterTells(t *testing.T) {
	for _, s := range samples() {
		got := crc.Sum(s)
		if want := crc32.ChecksumIEEE([]byte(s)); got != want {
			t.Errorf("Sum of %d bytes = %08x, the library's is %08x", len(s), got, want)
		}
		if len(s) > 600 {
			continue
		}
		if want := bitwise(s); got != want {
			t.Errorf("Sum of %d bytes = %08x, bit by bit it is %08x", len(s), got, want)
		}
	}
}

func TestSumOfEachByte(t *testing.T) {
	for b := range 256 {
		s := string([]byte{byte(b)})
		if got, want := crc.Sum(s), bitwise(s); got != want {
			t.Errorf("Sum of the byte %02x = %08x, not %08x", b, got, want)
		}
	}
}

func TestSumOfNothing(t *testing.T) {
	for _, parts := range [][]string{nil, {}, {""}, {"", ""}, {"", "", "", ""}} {
		if got := crc.Sum(parts...); got != 0 {
			t.Errorf("Sum of %d empty parts = %08x, not 0", len(parts), got)
		}
	}
	if got := crc.Sum(); got != 0 {
		t.Errorf("Sum() = %08x, not 0", got)
	}
}

func TestSumWithEmptyPartsBetween(t *testing.T) {
	const want = 0xcbf43926
	for _, parts := range [][]string{
		{"", "123456789"}, {"123456789", ""}, {"", "123456789", ""},
		{"1234", "", "56789"}, {"", "1", "", "", "2345678", "9", ""},
	} {
		if got := crc.Sum(parts...); got != want {
			t.Errorf("Sum(%q) = %08x, not %08x", parts, got, uint32(want))
		}
	}
}

func TestSumOfATextCutInAnyWay(t *testing.T) {
	s := stir(3, 40)
	want := crc.Sum(s)
	for i := range len(s) + 1 {
		if got := crc.Sum(s[:i], s[i:]); got != want {
			t.Errorf("cut at %d: %08x, not %08x", i, got, want)
		}
		for k := i; k <= len(s); k++ {
			if got := crc.Sum(s[:i], s[i:k], s[k:]); got != want {
				t.Errorf("cut at %d and %d: %08x, not %08x", i, k, got, want)
			}
		}
	}
	if got := crc.Sum(strings.Split(s, "")...); got != want {
		t.Errorf("cut everywhere: %08x, not %08x", got, want)
	}
}

func TestSumHangsOnThePartsOrder(t *testing.T) {
	if crc.Sum("ab", "c") == crc.Sum("c", "ab") {
		t.Error("parts told in another order have the same sum")
	}
	if got, want := crc.Sum("c", "ab"), crc.Sum("cab"); got != want {
		t.Errorf("Sum(c, ab) = %08x, not that of cab, %08x", got, want)
	}
}

func TestSumLeavesThePartsAsTheyAre(t *testing.T) {
	all := []string{"one", "", "two", "spare", "room"}
	before := slices.Clone(all)
	parts := all[:3]
	first := crc.Sum(parts...)
	if !slices.Equal(all, before) {
		t.Errorf("the parts are %q now, not %q", all, before)
	}
	if again := crc.Sum(parts...); again != first || first != crc.Sum("onetwo") {
		t.Errorf("the parts' sum is %08x, then %08x", first, again)
	}
	parts[0] = "six"
	if got := crc.Sum("onetwo"); got != first {
		t.Errorf("Sum is %08x behind a change of earlier parts, not %08x", got, first)
	}
}

// Promise 2.1: Seal.

func TestSealOfGivenTexts(t *testing.T) {
	for s, want := range map[string]string{
		"":          "\x00\x00\x00\x00",
		"a":         "a\x43\xbe\xb7\xe8",
		"abc":       "abc\xc2\x41\x24\x35",
		"123456789": "123456789\x26\x39\xf4\xcb",
		"\xff":      "\xff\x00\x00\x00\xff",
	} {
		if got := crc.Seal(s); got != want {
			t.Errorf("Seal(%x) = %x, not %x", s, got, want)
		}
	}
}

func TestSealIsTheTextAndItsSum(t *testing.T) {
	for _, s := range samples() {
		sum := crc.Sum(s)
		tail := []byte{byte(sum), byte(sum >> 8), byte(sum >> 16), byte(sum >> 24)}
		if got := crc.Seal(s); got != s+string(tail) {
			t.Errorf("Seal of %d bytes isn't these and %x", len(s), tail)
		}
	}
}

// Promise 2.1: Open.

func TestOpenOfLessThanFourBytes(t *testing.T) {
	for _, s := range []string{
		"", "\x00", "\x00\x00", "\x00\x00\x00", "\xff", "\xff\xff", "\xff\xff\xff", "a", "ab", "abc",
	} {
		if got, ok := crc.Open(s); got != "" || ok {
			t.Errorf("Open(%x) = %x, %v, not nothing and false", s, got, ok)
		}
	}
}

func TestOpenOfFourBytes(t *testing.T) {
	if got, ok := crc.Open("\x00\x00\x00\x00"); got != "" || !ok {
		t.Errorf("Open of nothing's seal = %x, %v, not nothing and true", got, ok)
	}
	for _, s := range []string{"\x01\x00\x00\x00", "\x00\x00\x00\x80", "\xff\xff\xff\xff", "abcd"} {
		if got, ok := crc.Open(s); got != "" || ok {
			t.Errorf("Open(%x) = %x, %v, not nothing and false", s, got, ok)
		}
	}
}

func TestOpenOfGivenTexts(t *testing.T) {
	for _, c := range []struct {
		s, want string
		ok      bool
	}{
		{"a\x43\xbe\xb7\xe8", "a", true},
		{"123456789\x26\x39\xf4\xcb", "123456789", true},
		{"123456789\xcb\xf4\x39\x26", "", false}, // the highest byte first
		{"\x26\x39\xf4\xcb123456789", "", false}, // the sum ahead
		{"123456789\xd9\xc6\x0b\x34", "", false}, // its bits not turned at the end
		{"123456789\x26\x39\xf4", "", false},     // a byte missing
		{"123456789\x26\x39\xf4\xcb\x00", "", false},
		{"23456789\x26\x39\xf4\xcb", "", false},
		{"\x00123456789\x26\x39\xf4\xcb", "", false},
		{"123456789\x00\x00\x00\x00", "", false},
		{"123456789", "", false},
	} {
		if got, ok := crc.Open(c.s); got != c.want || ok != c.ok {
			t.Errorf("Open(%x) = %x, %v, not %x, %v", c.s, got, ok, c.want, c.ok)
		}
	}
}

func TestOpenOfASumWithOneBitTurned(t *testing.T) {
	for _, s := range samples() {
		sum := crc.Sum(s)
		for k := range 32 {
			bad := sum ^ 1<<k
			tail := []byte{byte(bad), byte(bad >> 8), byte(bad >> 16), byte(bad >> 24)}
			if got, ok := crc.Open(s + string(tail)); got != "" || ok {
				t.Errorf("Open of %d bytes with bit %d of the sum turned: %v", len(s), k, ok)
			}
		}
	}
}

func TestOpenSharesNothingWithWhatIsHandedIn(t *testing.T) {
	s := crc.Seal("kept apart")
	got, ok := crc.Open(s)
	if !ok || unsafe.StringData(got) == unsafe.StringData(s) {
		t.Errorf("Open = %q, %v, in the memory of its argument", got, ok)
	}
}

// Promise 2.2: what was sealed is opened.

func TestWhatWasSealedIsOpened(t *testing.T) {
	for _, s := range append(samples(), "") {
		if got, ok := crc.Open(crc.Seal(s)); got != s || !ok {
			t.Errorf("a seal of %d bytes is opened as %d bytes, %v", len(s), len(got), ok)
		}
	}
}

func TestWhatWasSealedTwiceIsOpenedTwice(t *testing.T) {
	for _, s := range []string{"", "a", "abc", stir(5, 100)} {
		once, ok := crc.Open(crc.Seal(crc.Seal(s)))
		if once != crc.Seal(s) || !ok {
			t.Errorf("a seal of a seal of %x is opened as %x, %v", s, once, ok)
		}
		if got, ok := crc.Open(once); got != s || !ok {
			t.Errorf("%x, sealed twice, is opened as %x, %v", s, got, ok)
		}
	}
}

// Promise 2.3: turned bits in a row of up to 32 are told.

// turn answers s with the bits of mask turned, its lowest one at the bit first
// of s, the lowest of each byte first.
func turn(s string, first int, mask uint32) string {
	out := []byte(s)
	for k := range 32 {
		if mask>>k&1 == 1 {
			out[(first+k)/8] ^= 1 << ((first + k) % 8)
		}
	}
	return string(out)
}

// told fails the test where a seal with turned bits is opened.
func told(t *testing.T, seal string, first int, mask uint32) {
	t.Helper()
	if got, ok := crc.Open(turn(seal, first, mask)); got != "" || ok {
		t.Errorf("a seal of %d bytes, turned by %08x from bit %d on, is opened", len(seal), mask, first)
	}
}

func TestBitsTurnedInEachByteAreTold(t *testing.T) {
	for _, s := range []string{"", "a", "abc", "\x00\x00\x00\x00\x00", stir(9, 30), stir(10, 64)} {
		seal := crc.Seal(s)
		for at := range len(seal) {
			for mask := uint32(1); mask < 256; mask++ {
				told(t, seal, 8*at, mask)
			}
		}
	}
}

func TestShortRowsAreTold(t *testing.T) {
	const longest = 10
	for _, s := range []string{"", "a", "\xff\xff", stir(11, 9)} {
		seal := crc.Seal(s)
		for first := range 8 * len(seal) {
			for mask := uint32(1); mask < 1<<longest; mask += 2 {
				if first+longest <= 8*len(seal) || mask>>(8*len(seal)-first) == 0 {
					told(t, seal, first, mask)
				}
			}
		}
	}
}

// masks are ways of turning bits among 32 in a row, at all lengths of the row:
// both of its ends, all of it, every other bit, bits of the sum's own pattern,
// and bits without a pattern.
func masks() []uint32 {
	out := []uint32{0xedb88320, 0x04c11db7, 0x82608edb, 0xdb710641}
	for n := range 32 {
		row := uint32(1)<<n | (uint32(1)<<n - 1)
		ends := uint32(1)<<n | 1
		out = append(out, ends, row, row&0x55555555|ends, row&0xaaaaaaaa|ends)
		out = append(out, row&0xedb88320|ends, row&0x04c11db7|ends)
		bits := stir(uint64(n)+100, 64)
		for i := 0; i < len(bits); i += 4 {
			some := uint32(bits[i]) | uint32(bits[i+1])<<8 | uint32(bits[i+2])<<16 | uint32(bits[i+3])<<24
			out = append(out, row&some|ends)
		}
	}
	return out
}

func TestRowsOfUpTo32BitsAreTold(t *testing.T) {
	all := masks()
	for _, s := range []string{"", "a", "abc", "\x00\x00\x00\x00\x00\x00\x00\x00", stir(12, 30), stir(13, 60)} {
		seal := crc.Seal(s)
		for first := range 8*len(seal) - 31 {
			for _, mask := range all {
				told(t, seal, first, mask)
			}
		}
	}
}

func TestRowsInALongSealAreTold(t *testing.T) {
	seal := crc.Seal(stir(14, 4096))
	last := 8*len(seal) - 32
	for _, first := range []int{0, 1, 7, 8, 1000, 20003, last - 32, last - 31, last - 17, last - 1, last} {
		for _, mask := range []uint32{1, 1 << 31, 1<<31 | 1, 1<<32 - 1, 0xedb88320, 0x80000003} {
			told(t, seal, first, mask)
		}
	}
}
