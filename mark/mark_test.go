package mark_test

import (
	"fmt"
	"math"
	"strings"
	"testing"
	"unsafe"

	"croft/api"
	"croft/mark"
)

// numbers are some whose bytes all differ, and those around each power of two,
// where a bit or a byte comes or goes.
func numbers() []uint64 {
	out := []uint64{0x0102030405060708, 0xf1e2d3c4b5a69788, 0x8000000000000001, 0x0101010101010101}
	for k := range 64 {
		p := uint64(1) << k
		out = append(out, p-1, p, p+1, -p)
	}
	return out
}

// stir answers n bytes that follow from the seed alone, with no pattern in them.
func stir(seed uint64, n int) string {
	out := make([]byte, n)
	for i := range out {
		seed = seed*6364136223846793005 + 1442695040888963407
		out[i] = byte(seed >> 56)
	}
	return string(out)
}

// bytesOf are the eight bytes of a number, told without the program.
func bytesOf(n uint64) string {
	var out []byte
	for range 8 {
		out = append(out, byte(n%256))
		n /= 256
	}
	return string(out)
}

// filled is the text with bytes 00 behind it, up to 48.
func filled(text string) string {
	for len(text) < 48 {
		text += "\x00"
	}
	return text
}

// put answers a mark, and fails the test where there is none.
func put(t *testing.T, seq uint64, text string) string {
	t.Helper()
	s, e := mark.Put(seq, text)
	if e != api.OK {
		t.Fatalf("Put(%d, %d bytes): %d", seq, len(text), e)
	}
	return s
}

// got fails the test unless s is the mark of that number and these 48 bytes.
func got(t *testing.T, s string, seq uint64, text string) {
	t.Helper()
	if n, b, ok := mark.Get(s); n != seq || b != text || !ok {
		t.Errorf("Get(%q) = %d, %q, %t, not %d, %q", s, n, b, ok, seq, text)
	}
}

// none fails the test unless s is no mark.
func none(t *testing.T, s string) {
	t.Helper()
	if n, b, ok := mark.Get(s); n != 0 || b != "" || ok {
		t.Errorf("Get(%q) = %d, %q, %t", s, n, b, ok)
	}
}

// Promise 7.1: Put.

func TestPutOfGivenMarks(t *testing.T) {
	const zeros = "\x00\x00\x00\x00\x00\x00\x00\x00"
	for _, c := range []struct {
		seq  uint64
		text string
		want string
	}{
		{7, "ab", "\x07\x00\x00\x00\x00\x00\x00\x00ab" + strings.Repeat("\x00", 46) + "\x07\x00\x00\x00\x00\x00\x00\x00"},
		{258, "", "\x02\x01\x00\x00\x00\x00\x00\x00" + strings.Repeat("\x00", 48) + "\x02\x01\x00\x00\x00\x00\x00\x00"},
		{0, "", strings.Repeat("\x00", 64)},
		{0, strings.Repeat("x", 48), zeros + strings.Repeat("x", 48) + zeros},
		{0xf1e2d3c4b5a69788, "z", "\x88\x97\xa6\xb5\xc4\xd3\xe2\xf1z" + strings.Repeat("\x00", 47) + "\x88\x97\xa6\xb5\xc4\xd3\xe2\xf1"},
		{math.MaxUint64, strings.Repeat("\xff", 48), strings.Repeat("\xff", 64)},
	} {
		if s, e := mark.Put(c.seq, c.text); s != c.want || e != api.OK {
			t.Errorf("Put(%d, %q) = %q, %d, not %q", c.seq, c.text, s, e, c.want)
		}
	}
}

func TestPutOfAllLengths(t *testing.T) {
	for n := range 49 {
		for _, text := range []string{stir(uint64(n), n), strings.Repeat("\x00", n), strings.Repeat("\xff", n)} {
			seq := 0x0102030405060700 + uint64(n)
			want := bytesOf(seq) + filled(text) + bytesOf(seq)
			if s, e := mark.Put(seq, text); s != want || e != api.OK {
				t.Errorf("Put(%#x, %q) = %q, %d, not %q", seq, text, s, e, want)
			}
		}
	}
}

func TestPutOfAllNumbers(t *testing.T) {
	for _, seq := range numbers() {
		want := bytesOf(seq) + filled("text") + bytesOf(seq)
		if s, e := mark.Put(seq, "text"); s != want || e != api.OK {
			t.Errorf("Put(%#x) = %q, %d, not %q", seq, s, e, want)
		}
	}
}

func TestPutOfTooLongTexts(t *testing.T) {
	for _, n := range []int{49, 50, 56, 63, 64, 65, 96, 255, 256, 304, 512, 65536, 65536 + 48, 1 << 24} {
		for _, text := range []string{strings.Repeat("x", n), strings.Repeat("\x00", n)} {
			for _, seq := range []uint64{0, 1, math.MaxUint64} {
				if s, e := mark.Put(seq, text); s != "" || e != api.ErrLarge {
					t.Errorf("Put(%d, %d bytes) = %q, %d", seq, n, s, e)
				}
			}
		}
	}
}

func TestATextIsCountedByItsBytes(t *testing.T) {
	long := strings.Repeat("é", 24) // 24 letters of two bytes
	if s := put(t, 1, long); s[8:56] != long {
		t.Errorf("Put(1, %q) = %q", long, s)
	}
	if s, e := mark.Put(1, long+"é"); s != "" || e != api.ErrLarge {
		t.Errorf("Put of 25 letters of two bytes = %q, %d", s, e)
	}
}

// Promise 7.1: Get.

func TestGetOfGivenMarks(t *testing.T) {
	got(t, put(t, 7, "ab"), 7, "ab"+strings.Repeat("\x00", 46))
	got(t, strings.Repeat("\x00", 64), 0, strings.Repeat("\x00", 48))
	got(t, strings.Repeat("\xff", 64), math.MaxUint64, strings.Repeat("\xff", 48))
	got(t, "\x02\x01\x00\x00\x00\x00\x00\x00"+stir(1, 48)+"\x02\x01\x00\x00\x00\x00\x00\x00", 258, stir(1, 48))
}

func TestGetOfAnyBytesBetween(t *testing.T) {
	for seed := range uint64(300) {
		text, number := stir(seed, 48), stir(seed+1000, 8)
		var seq uint64
		for i := 7; i >= 0; i-- {
			seq = 256*seq + uint64(number[i])
		}
		got(t, number+text+number, seq, text)
	}
}

func TestGetOfOtherLengths(t *testing.T) {
	// At each length, the first eight bytes and the last eight are the same.
	long := strings.Repeat("12345678", 40)
	for n := range 300 {
		if n == 64 {
			continue
		}
		none(t, strings.Repeat("\x00", n))
		none(t, strings.Repeat("x", n))
		if n%8 == 0 {
			none(t, long[:n])
		}
	}
	none(t, strings.Repeat("\x00", 512))
	none(t, strings.Repeat("\x00", 65536+64))
	s := put(t, 0x0102030405060708, "hello")
	for _, near := range []string{s[:63], s[1:], s + "\x00", s + s[:1], "\x00" + s, s[56:] + s, s + s[:8], s + s, s[:8], s[:8] + s[56:], s[:56]} {
		none(t, near)
	}
}

func TestGetWithATurnedBit(t *testing.T) {
	for _, seq := range []uint64{0, 1, 0x0102030405060708, math.MaxUint64} {
		s := put(t, seq, "hello, marks")
		for at := range 64 {
			for bit := range 8 {
				turned := []byte(s)
				turned[at] ^= 1 << bit
				if at < 8 || at >= 56 {
					none(t, string(turned))
					continue
				}
				got(t, string(turned), seq, string(turned[8:56]))
			}
		}
	}
}

func TestGetHoldsTheEndsInTheirOrder(t *testing.T) {
	middle := strings.Repeat("m", 48)
	none(t, "12345678"+middle+"87654321")
	none(t, "12345678"+middle+"23456781")
	none(t, "\x00\x00\x00\x00\x00\x00\x00\x01"+middle+"\x01\x00\x00\x00\x00\x00\x00\x00")
	// Neither a number's lower half alone, nor its upper one.
	none(t, "abcd1234"+middle+"abcd5678")
	none(t, "1234abcd"+middle+"5678abcd")
	got(t, "abcdefgh"+middle+"abcdefgh", 0x6867666564636261, middle)
}

// Promise 7.2: Best.

// best is what Best answers of two sectors, told byte by byte.
func best(a, b string) (uint64, string, int) {
	isMark := func(s string) bool { return len(s) == 64 && s[:8] == s[56:] }
	// greater goes by the highest byte in which the two differ.
	greater := func(x, y string) bool {
		for i := 7; i >= 0; i-- {
			if x[i] != y[i] {
				return x[i] > y[i]
			}
		}
		return false
	}
	which := -1
	switch {
	case isMark(a) && isMark(b):
		which = 0
		if greater(b, a) {
			which = 1
		}
	case isMark(a):
		which = 0
	case isMark(b):
		which = 1
	default:
		return 0, "", -1
	}
	s := [2]string{a, b}[which]
	var seq uint64
	for i := range 8 {
		seq += uint64(s[i]) << (8 * i)
	}
	return seq, s[8:56], which
}

// holds fails the test unless Best answers so.
func holds(t *testing.T, a, b string, seq uint64, text string, which int) {
	t.Helper()
	if n, s, k := mark.Best(a, b); n != seq || s != text || k != which {
		t.Errorf("Best(%q, %q) = %d, %q, %d, not %d, %q, %d", a, b, n, s, k, seq, text, which)
	}
}

func TestBestOfGivenMarks(t *testing.T) {
	five, six := put(t, 5, "five"), put(t, 6, "six")
	holds(t, five, six, 6, filled("six"), 1)
	holds(t, six, five, 6, filled("six"), 0)
	holds(t, five, five, 5, filled("five"), 0)
	holds(t, five, put(t, 5, "other"), 5, filled("five"), 0)
	holds(t, put(t, 5, "other"), five, 5, filled("other"), 0)
}

func TestBestWhereOneIsNoMark(t *testing.T) {
	torn := strings.Repeat("\xff", 63) + "\x00" // its number would be the greatest
	for _, wrong := range []string{"", "x", torn, strings.Repeat("\xff", 63), strings.Repeat("\xff", 65)} {
		for _, seq := range []uint64{0, 1, math.MaxUint64} {
			s := put(t, seq, "text")
			holds(t, s, wrong, seq, filled("text"), 0)
			holds(t, wrong, s, seq, filled("text"), 1)
		}
		for _, other := range []string{"", torn, strings.Repeat("\x00", 128)} {
			holds(t, wrong, other, 0, "", -1)
		}
	}
	// A sector of bytes 00 is a mark.
	blank := strings.Repeat("\x00", 64)
	holds(t, blank, "", 0, filled(""), 0)
	holds(t, "", blank, 0, filled(""), 1)
	holds(t, blank, put(t, 0, "b"), 0, filled(""), 0)
	holds(t, blank, put(t, 1, "b"), 1, filled("b"), 1)
}

func TestBestOfAllPairs(t *testing.T) {
	sectors := []string{"", "x", stir(1, 63), stir(2, 64), stir(3, 65), strings.Repeat("\x00", 63)}
	for i, seq := range numbers() {
		sectors = append(sectors, put(t, seq, fmt.Sprint("text ", i)))
	}
	for _, a := range sectors {
		for _, b := range sectors {
			seq, text, which := best(a, b)
			holds(t, a, b, seq, text, which)
		}
	}
}

// Promise 7.3: what was put is got; what is torn is none, or one of the two.

func TestWhatWasPutIsGot(t *testing.T) {
	for _, seq := range numbers() {
		for n := range 49 {
			text := stir(seq+uint64(n), n)
			got(t, put(t, seq, text), seq, filled(text))
		}
	}
}

// torn fails the test unless the first bytes of a with the rest of b are no
// mark, or a or b, wherever it is cut.
func torn(t *testing.T, a, b string) {
	t.Helper()
	for cut := range 65 {
		s := a[:cut] + b[cut:]
		if s != a && s != b {
			none(t, s)
		}
		_, _, which := mark.Best(s, b)
		if s != a && s != b && which != 1 {
			t.Errorf("Best takes a torn sector, cut at %d: %q", cut, s)
		}
	}
}

func TestTornMarks(t *testing.T) {
	texts := []string{"", "a", stir(4, 48), stir(5, 48)}
	for _, seq := range numbers() {
		for k := range 64 {
			for _, other := range []uint64{seq ^ 1<<k, seq + 1<<k, seq ^ (1<<k - 1) ^ 1<<63} {
				if other == seq {
					continue
				}
				a, b := put(t, seq, texts[k%4]), put(t, other, texts[k/4%4])
				torn(t, a, b)
				torn(t, b, a)
			}
		}
	}
}

func TestWhereATornMarkCounts(t *testing.T) {
	// The numbers differ in their lowest byte alone: as soon as that one of the
	// number behind the text has come, the new mark is there wholly.
	before, after := put(t, 1, "before"), put(t, 2, "after")
	for cut := range 65 {
		s := after[:cut] + before[cut:]
		switch {
		case cut == 0:
			got(t, s, 1, filled("before"))
		case cut > 56:
			got(t, s, 2, filled("after"))
		default:
			none(t, s)
		}
	}
}

// The rules that hold everywhere: what is handed in and out.

// apart fails the test where an answer lies within a text that was handed in.
func apart(t *testing.T, answer, given string) {
	t.Helper()
	first := uintptr(unsafe.Pointer(unsafe.StringData(given)))
	at := uintptr(unsafe.Pointer(unsafe.StringData(answer)))
	if at >= first && at < first+uintptr(len(given)) {
		t.Error("an answer lies where what was handed in does")
	}
}

func TestAnswersShareNoMemory(t *testing.T) {
	text := strings.Repeat("x", 48)
	a, b := put(t, 7, text), put(t, 8, text)
	apart(t, a, text)
	_, between, _ := mark.Get(a)
	apart(t, between, a)
	for _, pair := range [][2]string{{a, b}, {b, a}, {a, a}, {a, ""}, {"", a}} {
		_, taken, _ := mark.Best(pair[0], pair[1])
		apart(t, taken, pair[0])
		apart(t, taken, pair[1])
	}
	_, first, _ := mark.Get(a)
	_, again, _ := mark.Get(a)
	apart(t, first, again)
}
