package word_test

import (
	"math"
	"math/big"
	"testing"

	"croft/word"
)

// samples are the numbers around each power of two, where a bit comes or goes,
// and some whose bytes all differ.
func samples() []uint64 {
	out := []uint64{0x0102030405060708, 0xf1e2d3c4b5a69788, 0x8000000080000001, 0x00ff00ff00ff00ff}
	for k := range 64 {
		p := uint64(1) << k
		out = append(out, p-1, p, p+1, -p, -p-1)
	}
	return out
}

// power is 2^k, without a bound.
func power(k int) *big.Int { return new(big.Int).Lsh(big.NewInt(1), uint(k)) }

// Promise 1.1: Put.

func TestPutTellsTheLowestBytesFirst(t *testing.T) {
	const n = 0xf1e2d3c4b5a69788
	const all = "\x88\x97\xa6\xb5\xc4\xd3\xe2\xf1"
	for size := range 9 {
		if got := word.Put(n, size); got != all[:size] {
			t.Errorf("Put(%#x, %d) = %x, not %x", uint64(n), size, got, all[:size])
		}
	}
}

func TestPutOfGivenNumbers(t *testing.T) {
	for _, c := range []struct {
		n    uint64
		size int
		want string
	}{
		{258, 2, "\x02\x01"},
		{258, 1, "\x02"},
		{258, 3, "\x02\x01\x00"},
		{0, 0, ""},
		{0, 1, "\x00"},
		{0, 8, "\x00\x00\x00\x00\x00\x00\x00\x00"},
		{255, 1, "\xff"},
		{256, 1, "\x00"},
		{1 << 63, 8, "\x00\x00\x00\x00\x00\x00\x00\x80"},
		{1 << 63, 7, "\x00\x00\x00\x00\x00\x00\x00"},
		{math.MaxUint64, 8, "\xff\xff\xff\xff\xff\xff\xff\xff"},
	} {
		if got := word.Put(c.n, c.size); got != c.want {
			t.Errorf("Put(%d, %d) = %x, not %x", c.n, c.size, got, c.want)
		}
	}
}

func TestPutOfSizesThatMayNotBe(t *testing.T) {
	for _, size := range []int{math.MinInt, -9, -8, -1, 9, 10, 16, 64, 256, 1 << 32, math.MaxInt} {
		if got := word.Put(math.MaxUint64, size); got != "" {
			t.Errorf("Put of size %d = %x, not nothing", size, got)
		}
	}
}

// Promise 1.1: Get.

func TestGetAtAPlace(t *testing.T) {
	const s = "\x02\x01\xff\x80\x00\x00\x00\x00\x7f\xf1"
	for _, c := range []struct {
		at, size int
		want     uint64
	}{
		{0, 2, 258},
		{1, 1, 1},
		{1, 2, 0xff01},
		{2, 1, 0xff},
		{2, 2, 0x80ff},
		{0, 0, 0},
		{9, 0, 0},
		{10, 0, 0},
		{9, 1, 0xf1},
		{0, 8, 0x80ff0102},
		{1, 8, 0x7f0000000080ff01},
		{2, 8, 0xf17f0000000080ff},
	} {
		if got, ok := word.Get(s, c.at, c.size); got != c.want || !ok {
			t.Errorf("Get at %d, size %d = %#x, %v, not %#x", c.at, c.size, got, ok, c.want)
		}
	}
}

func TestGetWhereTheBytesAreNot(t *testing.T) {
	const s = "\xff\xff\xff\xff\xff\xff\xff\xff\xff\xff"
	for _, c := range []struct {
		s        string
		at, size int
	}{
		{"\x02\x01", 1, 2},
		{"\x02\x01", 2, 1},
		{"\x02\x01", 3, 0},
		{"\x02\x01", 0, 3},
		{"", 0, 1},
		{"", 1, 0},
		{"", 0, 8},
		{s, 3, 8},
		{s, 10, 1},
		{s, 11, 0},
		{s, -1, 0},
		{s, -1, 1},
		{s, -8, 8},
		{s, math.MinInt, 0},
		{s, math.MinInt, 8},
		{s, math.MaxInt, 0},
		{s, math.MaxInt, 1},
		{s, math.MaxInt - 7, 8},
		{s, 1 << 32, 1},
	} {
		if got, ok := word.Get(c.s, c.at, c.size); got != 0 || ok {
			t.Errorf("Get(%x, %d, %d) = %d, %v, not 0, false", c.s, c.at, c.size, got, ok)
		}
	}
}

func TestGetOfNoBytesIsNought(t *testing.T) {
	for at := range 4 {
		if got, ok := word.Get("\xff\xff\xff", at, 0); got != 0 || !ok {
			t.Errorf("Get of no bytes at %d = %d, %v, not 0, true", at, got, ok)
		}
	}
	if got, ok := word.Get("", 0, 0); got != 0 || !ok {
		t.Errorf("Get of no bytes of nothing = %d, %v, not 0, true", got, ok)
	}
}

func TestGetOfSizesThatMayNotBe(t *testing.T) {
	const s = "\xff\xff\xff\xff\xff\xff\xff\xff\xff\xff\xff\xff"
	for _, size := range []int{math.MinInt, -9, -1, 9, 12, 13, 64, 1 << 32, math.MaxInt} {
		for _, at := range []int{-1, 0, 1, 12, math.MaxInt, math.MinInt} {
			if got, ok := word.Get(s, at, size); got != 0 || ok {
				t.Errorf("Get at %d, size %d = %d, %v, not 0, false", at, size, got, ok)
			}
		}
	}
}

// Promise 1.2: Fold, Unfold.

func TestFoldOfGivenNumbers(t *testing.T) {
	for _, c := range []struct {
		n    int64
		want uint64
	}{
		{0, 0}, {-1, 1}, {1, 2}, {-2, 3}, {2, 4}, {-128, 255}, {128, 256},
		{math.MaxInt32, 1<<32 - 2}, {math.MinInt32, 1<<32 - 1},
		{1 << 62, 1 << 63}, {-(1 << 62), 1<<63 - 1},
		{math.MaxInt64, math.MaxUint64 - 1}, {math.MinInt64, math.MaxUint64},
		{math.MaxInt64 - 1, math.MaxUint64 - 3}, {math.MinInt64 + 1, math.MaxUint64 - 2},
	} {
		if got := word.Fold(c.n); got != c.want {
			t.Errorf("Fold(%d) = %d, not %d", c.n, got, c.want)
		}
		if got := word.Unfold(c.want); got != c.n {
			t.Errorf("Unfold(%d) = %d, not %d", c.want, got, c.n)
		}
	}
}

func TestFoldIsAsReckonedWithoutABound(t *testing.T) {
	for _, u := range samples() {
		n := int64(u)
		want := new(big.Int).Mul(big.NewInt(n), big.NewInt(2))
		if n < 0 {
			want.Neg(want).Sub(want, big.NewInt(1))
		}
		if got := word.Fold(n); want.Cmp(new(big.Int).SetUint64(got)) != 0 {
			t.Errorf("Fold(%d) = %d, not %s", n, got, want)
		}
	}
}

func TestFoldMeetsEachNumberOnce(t *testing.T) {
	const span = 1000
	met := map[uint64]int64{}
	for n := int64(-span); n < span; n++ {
		u := word.Fold(n)
		if m, there := met[u]; there || u >= 2*span {
			t.Fatalf("Fold(%d) = %d, that of %d (%v)", n, u, m, there)
		}
		met[u] = n
	}
	for u := range uint64(2 * span) {
		if got := word.Unfold(u); got != met[u] {
			t.Errorf("Unfold(%d) = %d, not %d", u, got, met[u])
		}
	}
}

// Promise 1.3: Fits, Cut, Width.

func TestFitsAtBothEndsOfEachWidth(t *testing.T) {
	for bits := 1; bits <= 63; bits++ {
		least, most := int64(-1)<<(bits-1), int64(1)<<(bits-1)-1
		for _, n := range []int64{least, least / 2, -1, 0, most / 2, most} {
			if !word.Fits(n, bits) {
				t.Errorf("Fits(%d, %d) is false", n, bits)
			}
		}
		for _, n := range []int64{least - 1, most + 1, math.MinInt64, math.MaxInt64} {
			if word.Fits(n, bits) {
				t.Errorf("Fits(%d, %d) is true", n, bits)
			}
		}
	}
}

func TestFitsOfAllBits(t *testing.T) {
	for _, n := range []int64{math.MinInt64, math.MinInt64 + 1, -1, 0, 1, math.MaxInt64 - 1, math.MaxInt64} {
		if !word.Fits(n, 64) {
			t.Errorf("Fits(%d, 64) is false", n)
		}
	}
}

func TestFitsOfOneBit(t *testing.T) {
	for n, want := range map[int64]bool{-2: false, -1: true, 0: true, 1: false, 2: false} {
		if word.Fits(n, 1) != want {
			t.Errorf("Fits(%d, 1) isn't %v", n, want)
		}
	}
}

func TestFitsOfBitsThatMayNotBe(t *testing.T) {
	for _, bits := range []int{math.MinInt, -64, -1, 0, 65, 66, 128, 1 << 32, math.MaxInt} {
		for _, n := range []int64{math.MinInt64, -1, 0, 1, math.MaxInt64} {
			if word.Fits(n, bits) {
				t.Errorf("Fits(%d, %d) is true", n, bits)
			}
		}
	}
}

func TestCutIsTheRestByAPowerOfTwo(t *testing.T) {
	for _, u := range samples() {
		for bits := range 64 {
			want := u % (uint64(1) << bits)
			if got := word.Cut(u, bits); got != want {
				t.Errorf("Cut(%#x, %d) = %#x, not %#x", u, bits, got, want)
			}
		}
	}
}

func TestCutOfGivenNumbers(t *testing.T) {
	for _, c := range []struct {
		u    uint64
		bits int
		want uint64
	}{
		{0x1ff, 8, 0xff},
		{0x1fe, 1, 0},
		{0x1ff, 1, 1},
		{0x1ff, 9, 0x1ff},
		{math.MaxUint64, 63, math.MaxInt64},
		{1 << 63, 63, 0},
		{1 << 63, 64, 1 << 63},
	} {
		if got := word.Cut(c.u, c.bits); got != c.want {
			t.Errorf("Cut(%#x, %d) = %#x, not %#x", c.u, c.bits, got, c.want)
		}
	}
}

func TestCutBeyondTheBits(t *testing.T) {
	for _, u := range []uint64{0, 1, 5, 1 << 63, math.MaxUint64} {
		for _, bits := range []int{64, 65, 127, 128, 1 << 32, math.MaxInt} {
			if got := word.Cut(u, bits); got != u {
				t.Errorf("Cut(%#x, %d) = %#x, not the number itself", u, bits, got)
			}
		}
		for _, bits := range []int{0, -1, -63, -64, -65, math.MinInt} {
			if got := word.Cut(u, bits); got != 0 {
				t.Errorf("Cut(%#x, %d) = %#x, not 0", u, bits, got)
			}
		}
	}
}

func TestWidthOfGivenNumbers(t *testing.T) {
	for u, want := range map[uint64]int{
		0: 0, 1: 1, 2: 2, 3: 2, 4: 3, 127: 7, 128: 8, 255: 8, 256: 9,
		1<<32 - 1: 32, 1 << 32: 33, 1<<63 - 1: 63, 1 << 63: 64, math.MaxUint64: 64,
	} {
		if got := word.Width(u); got != want {
			t.Errorf("Width(%d) = %d, not %d", u, got, want)
		}
	}
}

func TestWidthIsTheLeastPowerAbove(t *testing.T) {
	for _, u := range samples() {
		n, k := new(big.Int).SetUint64(u), word.Width(u)
		if n.Cmp(power(k)) >= 0 || k > 0 && n.Cmp(power(k-1)) < 0 {
			t.Errorf("Width(%d) = %d", u, k)
		}
	}
}

// Promise 1.4: what was put is got, what was folded is unfolded.

func TestWhatWasPutIsGot(t *testing.T) {
	for _, n := range samples() {
		for size := range 9 {
			want := n
			if size < 8 {
				want = n % (uint64(1) << (8 * size))
			}
			s := word.Put(n, size)
			if len(s) != size {
				t.Fatalf("Put(%#x, %d) has %d bytes", n, size, len(s))
			}
			if got, ok := word.Get(s, 0, size); got != want || !ok {
				t.Errorf("Put(%#x, %d) is got as %#x, %v", n, size, got, ok)
			}
		}
	}
}

func TestWhatWasPutBetweenOtherBytesIsGot(t *testing.T) {
	for _, n := range samples() {
		for size := range 9 {
			for at := range 4 {
				s := "\xa5\x5a\xff"[:at] + word.Put(n, size) + "\xff\xff"
				got, ok := word.Get(s, at, size)
				if got != word.Cut(n, 8*size) || !ok {
					t.Errorf("Put(%#x, %d) at %d is got as %#x, %v", n, size, at, got, ok)
				}
			}
		}
	}
}

func TestWhatIsGotIsPutAgain(t *testing.T) {
	const s = "\x00\x80\xff\x01\x7f\xfe\x00\x00\x10\xc3"
	for size := range 9 {
		for at := range len(s) - size + 1 {
			n, ok := word.Get(s, at, size)
			if back := word.Put(n, size); back != s[at:at+size] || !ok {
				t.Errorf("size %d at %d: got %#x, %v, put again %x", size, at, n, ok, back)
			}
		}
	}
}

func TestWhatWasFoldedIsUnfolded(t *testing.T) {
	for _, u := range samples() {
		if got := word.Unfold(word.Fold(int64(u))); got != int64(u) {
			t.Errorf("%d folded and unfolded is %d", int64(u), got)
		}
		if got := word.Fold(word.Unfold(u)); got != u {
			t.Errorf("%d unfolded and folded is %d", u, got)
		}
	}
}
