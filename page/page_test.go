package page_test

import (
	"hash/crc32"
	"math"
	"math/bits"
	"slices"
	"strings"
	"testing"
	"unsafe"

	"croft/api"
	"croft/page"
)

// stir answers n bytes that follow from the seed alone, with no pattern in them.
func stir(seed uint64, n int) string {
	out := make([]byte, n)
	for i := range out {
		seed = seed*6364136223846793005 + 1442695040888963407
		out[i] = byte(seed >> 56)
	}
	return string(out)
}

// four are the four bytes of a number, told without the program.
func four(n uint32) string {
	return string([]byte{byte(n), byte(n >> 8), byte(n >> 16), byte(n >> 24)})
}

// summed puts the sum ahead of the bytes; it is the library's.
func summed(s string) string { return four(crc32.ChecksumIEEE([]byte(s))) + s }

// raw are the bytes of a page, right or not, with their sum; told without the
// program.
func raw(kind byte, no uint32, gap, room string) string {
	return summed(string([]byte{kind}) + four(no) + gap + room)
}

// noughts are n bytes 00.
func noughts(n int) string { return strings.Repeat("\x00", n) }

// filled is the room with bytes 00 behind it, up to 496.
func filled(room string) string { return room + noughts(496-len(room)) }

// numbers are some whose bytes all differ, and those around each power of two,
// as far as a page may have them.
func numbers() []int {
	out := []int{0x01020304, 0x7f6e5d4c, 0x00ff00ff, math.MaxInt32}
	for k := range 31 {
		p := 1 << k
		out = append(out, p-1, p, p+1, math.MaxInt32-p)
	}
	return out
}

// pack answers a page, and fails the test where there is none.
func pack(t *testing.T, kind, no int, room string) string {
	t.Helper()
	s, e := page.Pack(kind, no, room)
	if e != api.OK {
		t.Fatalf("Pack(%d, %d, %d bytes): %d", kind, no, len(room), e)
	}
	return s
}

// packs fails the test unless Pack answers the page as the chapter tells it.
func packs(t *testing.T, kind, no int, room string) {
	t.Helper()
	want := raw(byte(kind), uint32(no), noughts(7), filled(room))
	if s, e := page.Pack(kind, no, room); s != want || e != api.OK {
		t.Errorf("Pack(%d, %d, %q) = %q, %d, not %q", kind, no, room, s, e, want)
	}
}

// refused fails the test unless Pack answers that error and nothing else.
func refused(t *testing.T, kind, no int, room string, want api.Errno) {
	t.Helper()
	if s, e := page.Pack(kind, no, room); s != "" || e != want {
		t.Errorf("Pack(%d, %d, %d bytes) = %d bytes, %d, not the error %d", kind, no, len(room), len(s), e, want)
	}
}

// opens fails the test unless s is unpacked as that kind and these 496 bytes,
// by that number, which is its own.
func opens(t *testing.T, s string, kind, no int, room string) {
	t.Helper()
	if k, r, e := page.Unpack(s, no); k != kind || r != room || e != api.OK {
		t.Errorf("Unpack(%q, %d) = %d, %q, %d, not %d, %q", s, no, k, r, e, kind, room)
	}
	if n, e := page.Number(s); n != no || e != api.OK {
		t.Errorf("Number(%q) = %d, %d, not %d", s, n, e, no)
	}
}

// another fails the test unless s isn't the page of that number.
func another(t *testing.T, s string, no int) {
	t.Helper()
	if k, r, e := page.Unpack(s, no); k != 0 || r != "" || e != api.ErrPage {
		t.Errorf("Unpack(%q, %d) = %d, %q, %d", s, no, k, r, e)
	}
}

// wrong fails the test unless s is no page, by that error, whatever number is
// asked for.
func wrong(t *testing.T, s string, want api.Errno) {
	t.Helper()
	for _, no := range []int{0, 7, 1 << 31, math.MaxUint32, -1} {
		if k, r, e := page.Unpack(s, no); k != 0 || r != "" || e != want {
			t.Errorf("Unpack(%q, %d) = %d, %q, %d, not the error %d", s, no, k, r, e, want)
		}
	}
	if n, e := page.Number(s); n != 0 || e != want {
		t.Errorf("Number(%q) = %d, %d, not the error %d", s, n, e, want)
	}
}

// Promise 8.1: Pack.

func TestPackOfGivenPages(t *testing.T) {
	for _, c := range []struct {
		kind, no  int
		room, sum string
		head      string
	}{
		{1, 2, "x", "\xbc\xa0\xed\xa2", "\x01\x02\x00\x00\x00"},
		{1, 0, "", "\xf5\x29\x37\xc8", "\x01\x00\x00\x00\x00"},
		{3, 258, "room", "\x71\x09\xa7\xe6", "\x03\x02\x01\x00\x00"},
		{200, 0x01020304, "", "\x43\xac\x95\xe1", "\xc8\x04\x03\x02\x01"},
		{255, math.MaxInt32, strings.Repeat("\xff", 496), "\xd9\xc4\xff\x3f", "\xff\xff\xff\xff\x7f"},
	} {
		want := c.sum + c.head + noughts(7) + filled(c.room)
		if s, e := page.Pack(c.kind, c.no, c.room); s != want || e != api.OK {
			t.Errorf("Pack(%d, %d, %q) = %q, %d, not %q", c.kind, c.no, c.room, s, e, want)
		}
	}
}

func TestTheExample(t *testing.T) {
	s := pack(t, 1, 2, "x")
	if len(s) != 512 || s[4] != 1 || s[5] != 2 || s[16] != 'x' {
		t.Errorf("Pack(1, 2, x) = %q", s)
	}
}

func TestPackOfAllKinds(t *testing.T) {
	for kind := 1; kind <= 255; kind++ {
		packs(t, kind, 70000+kind, "room")
	}
}

func TestPackOfNumbers(t *testing.T) {
	for _, no := range numbers() {
		packs(t, 9, no, "room")
	}
}

func TestPackOfAllLengths(t *testing.T) {
	for n := range 497 {
		packs(t, 1+n%255, n, stir(uint64(n), n))
	}
	for _, n := range []int{1, 63, 64, 495, 496} {
		packs(t, 5, n, noughts(n))
		packs(t, 5, n, strings.Repeat("\xff", n))
	}
}

func TestPackOfKindsThatMayNotBe(t *testing.T) {
	for _, kind := range []int{
		0, -1, 256, 257, 511, 512, 1 << 16, 1<<16 + 1, 1<<32 + 1, -255, -256, math.MaxInt32,
		math.MaxInt, math.MinInt, math.MinInt + 1,
	} {
		for _, no := range []int{0, 1, -1} {
			refused(t, kind, no, "", api.ErrArg)
			refused(t, kind, no, strings.Repeat("x", 496), api.ErrArg)
		}
	}
}

func TestPackOfNumbersThatMayNotBe(t *testing.T) {
	for _, no := range []int{
		-1, -2, 1 << 31, 1<<31 + 1, math.MaxUint32, 1 << 32, 1<<32 + 1, 1<<40 + 5, math.MinInt32,
		math.MaxInt, math.MinInt, math.MinInt + 1,
	} {
		refused(t, 1, no, "", api.ErrArg)
		refused(t, 255, no, "room", api.ErrArg)
	}
}

func TestPackOfTooLongRooms(t *testing.T) {
	for _, n := range []int{497, 498, 503, 511, 512, 1008, 65536, 65536 + 496, 1 << 24} {
		refused(t, 1, 1, strings.Repeat("x", n), api.ErrLarge)
		refused(t, 255, math.MaxInt32, noughts(n), api.ErrLarge)
		// What may not be comes ahead of what is too long.
		refused(t, 0, 1, strings.Repeat("x", n), api.ErrArg)
		refused(t, 1, -1, strings.Repeat("x", n), api.ErrArg)
	}
}

func TestARoomIsCountedByItsBytes(t *testing.T) {
	long := strings.Repeat("é", 248) // 248 letters of two bytes
	packs(t, 1, 1, long)
	refused(t, 1, 1, long+"é", api.ErrLarge)
}

// Promise 8.2: Unpack and Number.

func TestUnpackOfGivenPages(t *testing.T) {
	opens(t, "\xbc\xa0\xed\xa2\x01\x02"+noughts(10)+"x"+noughts(495), 1, 2, filled("x"))
	opens(t, "\xf5\x29\x37\xc8\x01"+noughts(507), 1, 0, noughts(496))
	opens(t, "\xd9\xc4\xff\x3f\xff\xff\xff\xff\x7f"+noughts(7)+strings.Repeat("\xff", 496), 255, math.MaxInt32, strings.Repeat("\xff", 496))
}

func TestUnpackOfAnyRoom(t *testing.T) {
	for seed := range uint64(300) {
		room := stir(seed, 496)
		kind, no := 1+int(room[0])%255, int(room[1])<<23+int(room[2])
		opens(t, raw(byte(kind), uint32(no), noughts(7), room), kind, no, room)
	}
}

func TestUnpackOfOtherLengths(t *testing.T) {
	long := stir(3, 1100)
	for n := range 1100 {
		if n == 512 {
			continue
		}
		wrong(t, noughts(n), api.ErrForm)
		wrong(t, long[:n], api.ErrForm)
		if n >= 16 { // all is as in a page but the room's length
			wrong(t, raw(1, 7, noughts(7), long[:n-16]), api.ErrForm)
		}
	}
	s := pack(t, 1, 7, "room")
	for _, near := range []string{s[:511], s[1:], s + "\x00", "\x00" + s, s + s[:1], s[:64], s[:256], s + s, noughts(65536 + 512)} {
		wrong(t, near, api.ErrForm)
	}
}

func TestUnpackOfAWrongSum(t *testing.T) {
	for _, s := range []string{noughts(512), strings.Repeat("\xff", 512), stir(1, 512)} {
		wrong(t, s, api.ErrSum)
	}
	s := pack(t, 1, 7, "room")
	for at := range 4 {
		for b := 1; b < 256; b++ {
			turned := []byte(s)
			turned[at] ^= byte(b)
			wrong(t, string(turned), api.ErrSum)
		}
	}
	wrong(t, string([]byte{s[3], s[2], s[1], s[0]})+s[4:], api.ErrSum) // the highest first
	wrong(t, "\x00\x00\x00\x00"+s[4:], api.ErrSum)
	wrong(t, s[4:]+s[:4], api.ErrSum) // behind the bytes
	wrong(t, four(crc32.ChecksumIEEE([]byte(s)))+s[4:], api.ErrSum)
	wrong(t, four(crc32.ChecksumIEEE([]byte(noughts(4)+s[4:])))+s[4:], api.ErrSum)
}

func TestUnpackOfAKindOfNought(t *testing.T) {
	for _, no := range []uint32{0, 7, math.MaxInt32, 1 << 31, math.MaxUint32} {
		wrong(t, raw(0, no, noughts(7), filled("room")), api.ErrForm)
	}
}

func TestUnpackOfTooGreatNumbers(t *testing.T) {
	for _, no := range []uint32{1 << 31, 1<<31 + 1, 1<<31 + 7, 0xc0000000, math.MaxUint32 - 1, math.MaxUint32} {
		s := raw(1, no, noughts(7), filled("room"))
		wrong(t, s, api.ErrForm)
		for _, by := range []int{int(no), int(int32(no)), int(no) - 1<<31} {
			if k, r, e := page.Unpack(s, by); k != 0 || r != "" || e != api.ErrForm {
				t.Errorf("Unpack of the number %d by %d = %d, %q, %d", no, by, k, r, e)
			}
		}
	}
	opens(t, raw(1, math.MaxInt32, noughts(7), filled("room")), 1, math.MaxInt32, filled("room"))
}

func TestUnpackOfAGapThatIsNotNought(t *testing.T) {
	for at := range 7 {
		for b := 1; b < 256; b++ {
			gap := []byte(noughts(7))
			gap[at] = byte(b)
			wrong(t, raw(1, 7, string(gap), filled("room")), api.ErrForm)
		}
	}
	wrong(t, raw(1, 7, "aabbccd", filled("")), api.ErrForm)
	wrong(t, raw(1, 7, "\x01\xff\x01\xff\x01\xff\x01", filled("")), api.ErrForm)
}

func TestTheSumComesAheadOfTheForm(t *testing.T) {
	for _, s := range []string{
		raw(0, 7, noughts(7), filled("room")),
		raw(1, 1<<31, noughts(7), filled("room")),
		raw(1, 7, "\x00\x00\x00\x01\x00\x00\x00", filled("room")),
	} {
		wrong(t, s, api.ErrForm)
		wrong(t, s[:511]+"x", api.ErrSum)
		wrong(t, "\x01"+s[1:], api.ErrSum)
		wrong(t, s[:511], api.ErrForm)
	}
}

func TestUnpackByAnotherNumber(t *testing.T) {
	for _, no := range numbers() {
		s := pack(t, 1, no, "room")
		opens(t, s, 1, no, filled("room"))
		for k := range 63 {
			another(t, s, no^1<<k)
			another(t, s, no+1<<k)
			another(t, s, no-1<<k)
		}
		for _, other := range []int{^no, no + 1<<32, no - 1<<32, no | math.MinInt, math.MaxInt, math.MinInt} {
			another(t, s, other)
		}
		if no != 0 {
			another(t, s, -no)
			another(t, s, 0)
		}
	}
}

func TestNumberDoesNotAskForOne(t *testing.T) {
	for _, no := range numbers() {
		if n, e := page.Number(pack(t, 77, no, "room")); n != no || e != api.OK {
			t.Errorf("Number of the page %d = %d, %d", no, n, e)
		}
	}
}

// Promise 8.3: Cut.

func TestCutOfPages(t *testing.T) {
	for _, s := range []string{
		pack(t, 1, 2, "x"), pack(t, 255, math.MaxInt32, stir(2, 496)),
		// It is not asked whether they are pages.
		noughts(512), strings.Repeat("\xff", 512), stir(4, 512), strings.Repeat("é", 256),
	} {
		got := page.Cut(s)
		if len(got) != 8 {
			t.Fatalf("Cut has %d sectors", len(got))
		}
		for i, sector := range got {
			if want := s[64*i : 64*i+64]; sector != want {
				t.Errorf("the sector %d is %q, not %q", i, sector, want)
			}
		}
		if strings.Join(got, "") != s {
			t.Errorf("the sectors of %q put together are %q", s, got)
		}
	}
}

func TestCutOfOtherLengths(t *testing.T) {
	long := stir(5, 2000)
	for n := range 2000 {
		if n == 512 {
			continue
		}
		if got := page.Cut(long[:n]); len(got) != 0 {
			t.Errorf("Cut of %d bytes has %d sectors", n, len(got))
		}
	}
	if got := page.Cut(noughts(65536 + 512)); len(got) != 0 {
		t.Errorf("Cut of 65536 + 512 bytes has %d sectors", len(got))
	}
}

// Promise 8.4: what was packed is unpacked; turned bits in a row are told.

func TestWhatWasPackedIsUnpacked(t *testing.T) {
	for i, no := range numbers() {
		for _, kind := range []int{1, 2, 127, 128, 254, 255} {
			for _, n := range []int{0, 1, 64, 495, 496} {
				room := stir(uint64(i+n), n)
				opens(t, pack(t, kind, no, room), kind, no, filled(room))
			}
		}
	}
	for kind := 1; kind <= 255; kind++ {
		opens(t, pack(t, kind, kind, ""), kind, kind, noughts(496))
	}
	for n := range 497 {
		room := stir(uint64(n), n)
		opens(t, pack(t, 3, n, room), 3, n, filled(room))
	}
}

func TestWhatWasCutIsAPageAgain(t *testing.T) {
	s := pack(t, 6, 7, stir(6, 496))
	opens(t, strings.Join(page.Cut(s), ""), 6, 7, stir(6, 496))
}

// The bits of a page, and of its sum.
const (
	pageBits = 8 * 512
	sumBits  = 8 * 4
)

// turn answers s with the bits of mask turned, its lowest one at the bit first
// of s, the lowest of each byte first.
func turn(s string, first int, mask uint32) string {
	out := []byte(s)
	for k := range 32 {
		if mask>>k&1 == 1 {
			out[(first+k)/8] ^= 1 << ((first + k) % 8)
		}
	}
	return string(out)
}

// told fails the test unless the page 7 with turned bits has a wrong sum. The
// row goes from the lowest bit of the mask that is turned to the highest one.
func told(t *testing.T, s string, first int, mask uint32) {
	t.Helper()
	begin, end := first+bits.TrailingZeros32(mask), first+bits.Len32(mask)
	if end > pageBits || begin < sumBits && end > sumBits {
		return // no row of the page, or one of which nothing is promised
	}
	bad := turn(s, first, mask)
	if k, r, e := page.Unpack(bad, 7); k != 0 || r != "" || e != api.ErrSum {
		t.Errorf("Unpack of a page turned by %08x from the bit %d on: %d, %d", mask, first, k, e)
	}
	if n, e := page.Number(bad); n != 0 || e != api.ErrSum {
		t.Errorf("Number of a page turned by %08x from the bit %d on: %d, %d", mask, first, n, e)
	}
}

func TestEachTurnedBitIsTold(t *testing.T) {
	for _, s := range []string{pack(t, 1, 7, ""), pack(t, 255, 7, stir(8, 496)), pack(t, 128, 7, strings.Repeat("\xff", 496))} {
		for at := range pageBits {
			told(t, s, at, 1)
		}
	}
}

func TestTwoTurnedBitsAreTold(t *testing.T) {
	s := pack(t, 9, 7, stir(9, 496))
	for first := range pageBits {
		for k := 1; k < 32; k++ {
			told(t, s, first, 1|1<<k)
		}
	}
}

func TestBitsTurnedInEachByteAreTold(t *testing.T) {
	s := pack(t, 10, 7, stir(10, 496))
	for at := range 512 {
		for mask := uint32(1); mask < 256; mask++ {
			told(t, s, 8*at, mask)
		}
	}
}

func TestRowsOfUpTo32BitsAreTold(t *testing.T) {
	// Besides rows that are turned whole, the sum's own patterns, the most
	// likely ones to be missed; and bits without a pattern.
	masks := []uint32{1<<32 - 1, 1<<31 - 1, 1<<17 - 1, 0xaaaaaaaa, 0x55555555, 0xedb88320, 0x04c11db7, 0x82608edb, 0xdb710641, 0x80000003}
	some := stir(11, 24)
	for i := 0; i < len(some); i += 4 {
		masks = append(masks, uint32(some[i])|uint32(some[i+1])<<8|uint32(some[i+2])<<16|uint32(some[i+3])<<24)
	}
	s := pack(t, 12, 7, stir(12, 496))
	for first := range pageBits {
		for _, mask := range masks {
			told(t, s, first, mask)
		}
	}
}

func TestShortRowsWhereTheSumEndsAreTold(t *testing.T) {
	s := pack(t, 13, 7, stir(13, 496))
	for first := sumBits - 12; first < sumBits+8; first++ {
		for mask := uint32(1); mask < 1<<12; mask += 2 {
			told(t, s, first, mask)
		}
	}
}

// The rules that hold everywhere: what is handed in and out.

// apart fails the test where an answer lies within a text that was handed in
// or out.
func apart(t *testing.T, answer, other string) {
	t.Helper()
	first := uintptr(unsafe.Pointer(unsafe.StringData(other)))
	at := uintptr(unsafe.Pointer(unsafe.StringData(answer)))
	if at >= first && at < first+uintptr(len(other)) {
		t.Error("an answer lies where another text does")
	}
}

func TestAnswersShareNoMemory(t *testing.T) {
	room := strings.Repeat("x", 496)
	s := pack(t, 1, 2, room)
	apart(t, s, room)
	apart(t, s, pack(t, 1, 2, room))
	_, first, _ := page.Unpack(s, 2)
	_, again, _ := page.Unpack(s, 2)
	apart(t, first, s)
	apart(t, first, again)
	one, two := page.Cut(s), page.Cut(s)
	for i, sector := range one {
		apart(t, sector, s)
		for k, other := range two {
			apart(t, sector, other)
			if i != k {
				apart(t, sector, one[k])
			}
		}
	}
	one[0] = "other"
	if !slices.Equal(two, page.Cut(s)) {
		t.Error("what is done to an answer is seen in another one")
	}
}
