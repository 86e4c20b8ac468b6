package redo_test

import (
	"fmt"
	"math"
	"slices"
	"strings"
	"testing"
	"unsafe"

	"croft/api"
	"croft/disk"
	"croft/redo"
)

// stir answers n bytes that follow from the seed alone, with no pattern in them.
func stir(seed uint64, n int) string {
	out := make([]byte, n)
	for i := range out {
		seed = seed*6364136223846793005 + 1442695040888963407
		out[i] = byte(seed >> 56)
	}
	return string(out)
}

// pagesOf are n pages that follow from the seed alone.
func pagesOf(seed uint64, n int) []string {
	out := make([]string, n)
	for i := range out {
		out[i] = stir(seed+uint64(i)<<20, 512)
	}
	return out
}

// noughts are n bytes 00.
func noughts(n int) string { return strings.Repeat("\x00", n) }

// low are the lowest bytes of a number, told without the program.
func low(n uint64, size int) string {
	var out []byte
	for range size {
		out = append(out, byte(n%256))
		n /= 256
	}
	return string(out)
}

// marked is a mark with a text, told without the program.
func marked(seq uint64, text string) string {
	return low(seq, 8) + text + noughts(48-len(text)) + low(seq, 8)
}

// headOf is the mark of a transaction of n pages, told without the program.
func headOf(seq uint64, n int) string { return marked(seq, low(uint64(n), 2)+"\x01") }

// bodyOf are a page's nine sectors, told byte by byte.
func bodyOf(page string) string {
	out := make([]byte, 9*64)
	at := 0
	for i := range out {
		if i%64 == 10 {
			continue
		}
		if at < len(page) {
			out[i] = page[at]
		}
		at++
	}
	return string(out)
}

// laid are the sectors of transactions, one behind the other.
func laid(txns ...redo.Txn) string {
	var out strings.Builder
	for _, x := range txns {
		out.WriteString(headOf(x.Seq, len(x.Pages)))
		for _, page := range x.Pages {
			out.WriteString(bodyOf(page))
		}
	}
	return out.String()
}

// long is how many sectors a transaction of n pages takes.
func long(n int) int { return 1 + 9*n }

// loaded answers a disk of these bytes.
func loaded(t *testing.T, image string) *disk.Disk {
	t.Helper()
	d, e := disk.Load(image)
	if e != api.OK {
		t.Fatalf("Load of %d bytes: %d", len(image), e)
	}
	return d
}

// blank answers a disk of bytes 00.
func blank(t *testing.T, sectors int) *disk.Disk {
	t.Helper()
	d, e := disk.New(sectors)
	if e != api.OK {
		t.Fatalf("New(%d): %d", sectors, e)
	}
	return d
}

// alike tells whether these are the same transactions.
func alike(a, b []redo.Txn) bool {
	return slices.EqualFunc(a, b, func(x, y redo.Txn) bool {
		return x.Seq == y.Seq && slices.Equal(x.Pages, y.Pages)
	})
}

// shape tells transactions by their numbers and how many pages they have.
func shape(txns []redo.Txn) string {
	out := ""
	for _, x := range txns {
		out += fmt.Sprintf("%d (%d) ", x.Seq, len(x.Pages))
	}
	return out
}

// stretch is where a log is looked for.
type stretch struct {
	from, size int
	seq        uint64
}

// opened answers the log of a stretch; it fails the test unless just these
// transactions stand there, and unless opening changes nothing.
func opened(t *testing.T, d *disk.Disk, s stretch, want ...redo.Txn) *redo.Log {
	t.Helper()
	image, pending := d.Image(), d.Pending()
	l, got, e := redo.Open(d, s.from, s.size, s.seq)
	if e != api.OK || l == nil || !alike(got, want) {
		t.Fatalf("Open%v = %s, %d, not %s", s, shape(got), e, shape(want))
	}
	if d.Image() != image || d.Pending() != pending || d.Down() {
		t.Fatal("Open changed the disk")
	}
	left, next := s.size, s.seq
	for _, x := range want {
		left -= long(len(x.Pages))
		next++
	}
	isAt(t, l, left, next)
	return l
}

// isAt fails the test unless so many sectors are left, and that is the next
// number.
func isAt(t *testing.T, l *redo.Log, left int, next uint64) {
	t.Helper()
	if l.Left() != left || l.Next() != next {
		t.Fatalf("Left %d, Next %d, not %d, %d", l.Left(), l.Next(), left, next)
	}
}

// notOpened fails the test unless Open answers that error and nothing else.
func notOpened(t *testing.T, d *disk.Disk, s stretch, want api.Errno) {
	t.Helper()
	if l, got, e := redo.Open(d, s.from, s.size, s.seq); l != nil || len(got) != 0 || e != want {
		t.Errorf("Open%v = %v, %s, %d, not the error %d", s, l != nil, shape(got), e, want)
	}
}

// appended fails the test unless Append answers so.
func appended(t *testing.T, l *redo.Log, pages []string, want api.Errno) {
	t.Helper()
	if e := l.Append(pages); e != want {
		t.Fatalf("Append of %d pages = %d, not %d", len(pages), e, want)
	}
}

// restarted fails the test unless Restart answers so.
func restarted(t *testing.T, l *redo.Log, want api.Errno) {
	t.Helper()
	if e := l.Restart(); e != want {
		t.Fatalf("Restart = %d, not %d", e, want)
	}
}

// Promise 9.1: Open.

func TestPer(t *testing.T) {
	if redo.Per != 9 {
		t.Errorf("Per = %d", redo.Per)
	}
}

func TestOpenOfWrongArguments(t *testing.T) {
	d := blank(t, 40)
	for _, s := range []stretch{
		{-1, 10, 1}, {-40, 40, 1}, {math.MinInt, 10, 1}, {0, 0, 1}, {0, -1, 1}, {0, math.MinInt, 1},
		{40, 0, 1}, {40, 1, 1}, {39, 2, 1}, {0, 41, 1}, {1, 40, 1}, {20, 21, 1}, {41, 1, 1},
		{0, math.MaxInt, 1}, {math.MaxInt, 1, 1}, {math.MaxInt, math.MaxInt, 1}, {1, math.MaxInt, 1},
		{math.MaxInt, math.MinInt, 1}, {math.MinInt, math.MaxInt, 1}, {50, -20, 1}, {-20, 50, 1},
		{math.MaxInt - 5, 10, 1}, {math.MinInt, math.MinInt, 1}, {1 << 32, 10, 1}, {0, 1 << 32, 1},
	} {
		notOpened(t, d, s, api.ErrArg)
		notOpened(t, nil, s, api.ErrArg)
	}
	for _, s := range []stretch{{0, 1, 1}, {0, 0, 0}, {0, 10, 7}, {2, 40, 1}} {
		notOpened(t, nil, s, api.ErrArg)
	}
}

func TestOpenOfADiskThatIsDown(t *testing.T) {
	d := loaded(t, laid(redo.Txn{Seq: 1, Pages: pagesOf(1, 1)})+noughts(64))
	d.Fuse(0)
	d.Flush()
	for _, s := range []stretch{{0, 11, 1}, {0, 1, 1}, {10, 1, 1}, {0, 11, 2}} {
		notOpened(t, d, s, api.ErrDown)
	}
	// What may not be comes ahead of the disk's error.
	for _, s := range []stretch{{-1, 5, 1}, {0, 12, 1}, {0, 0, 1}, {11, 1, 1}} {
		notOpened(t, d, s, api.ErrArg)
	}
	d.Crash(nil, -1, 0)
	opened(t, d, stretch{0, 11, 1}, redo.Txn{Seq: 1, Pages: pagesOf(1, 1)})
}

func TestOpenWhereNothingStands(t *testing.T) {
	for _, n := range []int{1, 2, 9, 10, 11, 100} {
		for _, seq := range []uint64{0, 1, 7, math.MaxUint64} {
			opened(t, blank(t, n), stretch{0, n, seq})
			opened(t, blank(t, n), stretch{n - 1, 1, seq})
			opened(t, loaded(t, strings.Repeat("\xff", 64*n)), stretch{0, n, seq})
			opened(t, loaded(t, stir(seq, 64*n)), stretch{0, n, seq})
		}
	}
	opened(t, blank(t, api.MaxSectors), stretch{0, api.MaxSectors, 1})
	opened(t, blank(t, api.MaxSectors), stretch{api.MaxSectors - 1, 1, 1})
}

func TestOpenOfGivenSectors(t *testing.T) {
	// A page of the bytes 01 02 03 .. : its sectors, told byte by byte.
	page := make([]byte, 512)
	for i := range page {
		page[i] = byte(i%251 + 1)
	}
	image := []byte("\x02\x01\x00\x00\x00\x00\x00\x00" + "\x01\x00\x01" + noughts(45) + "\x02\x01\x00\x00\x00\x00\x00\x00")
	for k := range 9 {
		for i := range 63 {
			if i == 10 {
				image = append(image, 0)
			}
			b := byte(0)
			if 63*k+i < 512 {
				b = byte((63*k+i)%251 + 1)
			}
			image = append(image, b)
		}
	}
	want := redo.Txn{Seq: 258, Pages: []string{string(page)}}
	opened(t, loaded(t, string(image)), stretch{0, 10, 258}, want)
	opened(t, loaded(t, string(image)), stretch{0, 10, 2})
	opened(t, loaded(t, string(image)), stretch{0, 9, 258})
	if laid(want) != string(image) {
		t.Error("the test's own telling of sectors is wrong")
	}
}

func TestOpenTellsAllThatStands(t *testing.T) {
	for n := 1; n <= 64; n++ {
		x := redo.Txn{Seq: uint64(n), Pages: pagesOf(uint64(n), n)}
		y := redo.Txn{Seq: uint64(n) + 1, Pages: pagesOf(99, 65-n)}
		z := redo.Txn{Seq: uint64(n) + 2, Pages: pagesOf(98, 1)}
		d := loaded(t, stir(1, 64)+laid(x, y, z)+stir(2, 3*64))
		size := d.Len() - 4
		opened(t, d, stretch{1, size, x.Seq}, x, y, z)
		opened(t, d, stretch{1, size + 3, x.Seq}, x, y, z)
		opened(t, d, stretch{1 + long(n), size - long(n), y.Seq}, y, z)
		opened(t, d, stretch{1 + size - 10, 13, z.Seq}, z)
		opened(t, d, stretch{1, size, y.Seq})
		opened(t, d, stretch{0, size, x.Seq})
	}
}

func TestNumbersGoOnAtNought(t *testing.T) {
	var want []redo.Txn
	for i, seq := range []uint64{math.MaxUint64 - 1, math.MaxUint64, 0, 1} {
		want = append(want, redo.Txn{Seq: seq, Pages: pagesOf(uint64(i), i+1)})
	}
	d := loaded(t, laid(want...)+noughts(64))
	for i, x := range want {
		from := strings.Index(d.Image(), headOf(x.Seq, i+1)) / 64
		opened(t, d, stretch{from, d.Len() - from, x.Seq}, want[i:]...)
	}
	l := opened(t, blank(t, 30), stretch{0, 30, math.MaxUint64})
	appended(t, l, want[0].Pages, api.OK)
	isAt(t, l, 20, 0)
	appended(t, l, want[0].Pages, api.OK)
	isAt(t, l, 10, 1)
}

func TestNumbersRiseByOne(t *testing.T) {
	one := redo.Txn{Seq: 5, Pages: pagesOf(1, 1)}
	for _, seq := range []uint64{0, 1, 4, 5, 7, 6 + 256, 6 << 8, 6 + 1<<32, 6 + 1<<63, math.MaxUint64} {
		d := loaded(t, laid(one, redo.Txn{Seq: seq, Pages: pagesOf(2, 1)})+noughts(64))
		opened(t, d, stretch{0, 21, 5}, one)
	}
	for _, seq := range []uint64{0, 1, 4, 6, 5 + 256, 5 + 1<<63, math.MaxUint64} {
		opened(t, loaded(t, laid(one)), stretch{0, 10, seq})
	}
}

func TestMarksThatAreNone(t *testing.T) {
	one := redo.Txn{Seq: 5, Pages: pagesOf(1, 1)}
	right := headOf(6, 2)
	bodies := bodyOf(stir(7, 512)) + bodyOf(stir(8, 512)) + noughts(9*64*70)
	looks := func(mark string, rightly bool) {
		t.Helper()
		d := loaded(t, laid(one)+mark+bodies)
		want := []redo.Txn{one}
		if rightly {
			want = append(want, redo.Txn{Seq: 6, Pages: []string{stir(7, 512), stir(8, 512)}})
		}
		opened(t, d, stretch{0, d.Len(), 5}, want...)
	}
	looks(right, true)
	for i := range 64 {
		for _, bit := range []byte{1, 2, 16, 128} {
			turned := []byte(right)
			turned[i] ^= bit
			// Another count would be another transaction's mark.
			if i != 8 {
				looks(string(turned), false)
			}
		}
	}
	looks(noughts(64), false)
	looks(marked(6, ""), false)
	looks(marked(6, "\x02"), false)
	looks(marked(6, "\x02\x00\x00"), false)
	looks(marked(6, "\x02\x00\x02"), false)
	looks(marked(6, "\x02\x00\x01\x01"), false)
	looks(marked(6, "\x02\x00\x01"+noughts(44)+"\x01"), false)
	looks(marked(6, "\x00\x02\x01"), false)
	looks(marked(6, "\x02\x01\x01"), false)
}

func TestMarksOfOtherCounts(t *testing.T) {
	for n := range 400 {
		pages := make([]string, n)
		for i := range pages {
			pages[i] = stir(9, 512)
		}
		x := redo.Txn{Seq: 3, Pages: pages}
		d := loaded(t, laid(x)+noughts(128))
		if 1 <= n && n <= 64 {
			opened(t, d, stretch{0, d.Len(), 3}, x)
			continue
		}
		opened(t, d, stretch{0, d.Len(), 3})
	}
	for _, n := range []uint64{0x4000, 0x8001, 0xfffe, 0xffff} {
		opened(t, loaded(t, headOf(3, int(n))+noughts(64*(api.MaxSectors-1))), stretch{0, api.MaxSectors, 3})
	}
}

func TestPagesThatDoNotStand(t *testing.T) {
	pages := []string{stir(4, 512), noughts(512), strings.Repeat("\xff", 512)}
	one, two := redo.Txn{Seq: 1, Pages: pagesOf(1, 1)}, redo.Txn{Seq: 2, Pages: pages}
	three := redo.Txn{Seq: 3, Pages: pagesOf(3, 1)}
	image := laid(one, two, three)
	all := stretch{0, len(image) / 64, 1}
	opened(t, loaded(t, image), all, one, two, three)
	for k := range 3 {
		for i := range 9 * 64 {
			at := (11+9*k)*64 + i
			// The byte is none of the page's, if it is a sector's eleventh one or
			// stands behind the page: of its ninth sector eight bytes are the page's.
			beside := i%64 == 10 || i > 8*64+7
			for _, to := range []byte{1, 2, 0x80, 0xff} {
				turned := []byte(image)
				turned[at] ^= to
				d := loaded(t, string(turned))
				if beside {
					opened(t, d, all, one)
					continue
				}
				if _, got, _ := redo.Open(d, 0, d.Len(), 1); len(got) != 3 || alike(got, []redo.Txn{one, two, three}) {
					t.Fatalf("a page's byte %d was turned: %s", i, shape(got))
				}
			}
		}
	}
}

func TestAMarkIsNoPagesSector(t *testing.T) {
	// All sectors of the second page are the mark of the third transaction.
	mark := headOf(3, 1)
	one := redo.Txn{Seq: 1, Pages: pagesOf(1, 1)}
	image := laid(one) + headOf(2, 1) + strings.Repeat(mark, 9) + laid(redo.Txn{Seq: 3, Pages: pagesOf(3, 1)})
	opened(t, loaded(t, image), stretch{0, 30, 1}, one)
}

func TestTransactionsStandWithinTheStretch(t *testing.T) {
	var all []redo.Txn
	for i := range 4 {
		all = append(all, redo.Txn{Seq: uint64(20 + i), Pages: pagesOf(uint64(i), 3-i%3)})
	}
	d := loaded(t, noughts(128)+laid(all...)+noughts(64))
	for size := 1; size <= d.Len()-2; size++ {
		fit, used := 0, 0
		for _, x := range all {
			used += long(len(x.Pages))
			if used <= size {
				fit++
			}
		}
		opened(t, d, stretch{2, size, 20}, all[:fit]...)
	}
}

func TestOpeningTakesNoPower(t *testing.T) {
	one := redo.Txn{Seq: 1, Pages: pagesOf(1, 2)}
	d := loaded(t, laid(one)+noughts(640))
	if e := d.Write(28, stir(1, 64)); e != api.OK {
		t.Fatal(e)
	}
	d.Fuse(1)
	for range 5 {
		opened(t, d, stretch{0, 29, 1}, one)
	}
	if e := d.Flush(); e != api.OK {
		t.Errorf("Flush = %d: opening wrote or flushed", e)
	}
}

// Promise 9.2: Append.

func TestTheExample(t *testing.T) {
	d := blank(t, 22)
	l := opened(t, d, stretch{0, 22, 1})
	appended(t, l, pagesOf(1, 2), api.OK)
	isAt(t, l, 3, 2)
	appended(t, l, pagesOf(2, 1), api.ErrLog)
	isAt(t, l, 3, 2)
	opened(t, d, stretch{0, 22, 1}, redo.Txn{Seq: 1, Pages: pagesOf(1, 2)})
}

func TestAppendWritesTheseBytes(t *testing.T) {
	for _, seq := range []uint64{0, 7, 258, 0xf1e2d3c4b5a69788, math.MaxUint64 - 1} {
		for _, from := range []int{0, 1, 5} {
			before := stir(seq, 64*(from+100))
			d := loaded(t, before)
			l := opened(t, d, stretch{from, 95, seq})
			var all []redo.Txn
			for i, n := range []int{2, 1, 4, 1} {
				x := redo.Txn{Seq: seq + uint64(i), Pages: pagesOf(uint64(i), n)}
				appended(t, l, x.Pages, api.OK)
				all = append(all, x)
				text := before[:64*from] + laid(all...)
				if d.Image() != text+before[len(text):] || d.Pending() != 0 {
					t.Fatalf("from %d, seq %d: other bytes stand behind %s", from, seq, shape(all))
				}
				opened(t, d, stretch{from, 95, seq}, all...)
			}
		}
	}
}

func TestAppendOfAllCounts(t *testing.T) {
	d := blank(t, 700)
	l := opened(t, d, stretch{3, 600, 1})
	for n := 1; n <= 64; n++ {
		x := redo.Txn{Seq: uint64(n), Pages: pagesOf(uint64(n), n)}
		appended(t, l, x.Pages, api.OK)
		isAt(t, l, 600-long(n), x.Seq+1)
		opened(t, d, stretch{3, 600, x.Seq}, x)
		restarted(t, l, api.OK)
	}
}

func TestAppendOfWrongPages(t *testing.T) {
	d := loaded(t, stir(1, 64*700))
	before := d.Image()
	l := opened(t, d, stretch{0, 700, 4})
	page := stir(2, 512)
	wrong := [][]string{nil, {}, {""}, {page[:511]}, {page + "x"}, {page + page}, {page, ""}, {"", page}, {page, page, page[:64]}}
	for _, n := range []int{64, 65, 5000} {
		wrong = append(wrong, append(pagesOf(1, n), page[:500]), append([]string{"x"}, pagesOf(1, n)...))
	}
	for _, pages := range wrong {
		appended(t, l, pages, api.ErrArg)
		appended(t, nil, pages, api.ErrArg)
	}
	appended(t, nil, []string{page}, api.ErrArg)
	appended(t, nil, pagesOf(1, 65), api.ErrArg)
	for _, n := range []int{65, 66, 77, 78, 128, 1000} {
		// ErrBig comes ahead of ErrLog: 78 pages don't fit.
		appended(t, l, slices.Repeat([]string{page}, n), api.ErrBig)
	}
	isAt(t, l, 700, 4)
	if d.Image() != before || d.Pending() != 0 {
		t.Error("a refused Append is on the disk")
	}
	appended(t, l, slices.Repeat([]string{page}, 64), api.OK)
}

func TestAppendWhereItFits(t *testing.T) {
	for size := 1; size <= 42; size++ {
		for n := 1; n <= 5; n++ {
			before := stir(uint64(size), 64*(size+2))
			d := loaded(t, before)
			l := opened(t, d, stretch{1, size, 1})
			if long(n) <= size {
				appended(t, l, pagesOf(1, n), api.OK)
				isAt(t, l, size-long(n), 2)
				if after := d.Image(); after[:64] != before[:64] || after[64*(1+long(n)):] != before[64*(1+long(n)):] {
					t.Fatal("Append wrote elsewhere")
				}
				continue
			}
			appended(t, l, pagesOf(1, n), api.ErrLog)
			isAt(t, l, size, 1)
			if d.Image() != before || d.Pending() != 0 {
				t.Fatal("a refused Append is on the disk")
			}
		}
	}
}

func TestAppendFillsTheStretch(t *testing.T) {
	d := blank(t, 41)
	s := stretch{1, 39, 7}
	l := opened(t, d, s)
	var all []redo.Txn
	for i, n := range []int{1, 2, 1} {
		all = append(all, redo.Txn{Seq: s.seq + uint64(i), Pages: pagesOf(uint64(i), n)})
		appended(t, l, all[i].Pages, api.OK)
	}
	isAt(t, l, 0, 10)
	appended(t, l, pagesOf(9, 1), api.ErrLog)
	again := opened(t, d, s, all...)
	appended(t, again, pagesOf(9, 1), api.ErrLog)
	isAt(t, again, 0, 10)
	opened(t, d, s, all...)
}

func TestAppendGoesOnWhereOpenEnds(t *testing.T) {
	one := redo.Txn{Seq: 4, Pages: pagesOf(1, 2)}
	two := redo.Txn{Seq: 5, Pages: pagesOf(2, 1)}
	three := redo.Txn{Seq: 6, Pages: pagesOf(3, 1)}
	d := loaded(t, laid(one)+stir(1, 64*21))
	s := stretch{0, 40, 4}
	l := opened(t, d, s, one)
	appended(t, l, two.Pages, api.OK)
	l = opened(t, d, s, one, two)
	appended(t, l, three.Pages, api.OK)
	opened(t, d, s, one, two, three)
}

func TestTheOrderOfWhatIsWritten(t *testing.T) {
	const n = 3
	before := stir(5, 64*40)
	text := laid(redo.Txn{Seq: 9, Pages: pagesOf(6, n)})
	// The image where the first sectors behind the mark's place stand.
	stand := func(sectors int) string {
		return before[:64*3] + text[64:64*(1+sectors)] + before[64*(3+sectors):]
	}
	for calls := range 9*n + 4 {
		d := loaded(t, before)
		l := opened(t, d, stretch{2, 38, 9})
		d.Fuse(calls)
		waiting, sure, all, want := calls, before, stand(min(calls, 9*n)), api.ErrDown
		switch calls {
		case 9*n + 1: // the power goes in the Write of the mark
			waiting, sure = 0, all
		case 9*n + 2: // in its Flush
			waiting, sure, all = 1, all, before[:128]+text+before[128+len(text):]
		case 9*n + 3:
			all = before[:128] + text + before[128+len(text):]
			waiting, sure, want = 0, all, api.OK
		}
		appended(t, l, pagesOf(6, n), want)
		if d.Pending() != waiting || d.Image() != sure {
			t.Errorf("behind %d calls: %d writes aren't sure, not %d, or others are", calls, d.Pending(), waiting)
		}
		d.Crash(slices.Repeat([]bool{true}, waiting), -1, 0)
		if d.Image() != all {
			t.Errorf("behind %d calls other sectors were written", calls)
		}
	}
}

func TestBehindADisksError(t *testing.T) {
	one := redo.Txn{Seq: 3, Pages: pagesOf(1, 2)}
	for calls := range 9*2 + 3 {
		d := blank(t, 700)
		s := stretch{1, 650, 3}
		l := opened(t, d, s)
		appended(t, l, one.Pages, api.OK)
		d.Fuse(calls)
		appended(t, l, pagesOf(2, 2), api.ErrDown)
		for range 2 { // the disk is down, then it is not
			image := d.Image()
			isAt(t, l, 0, 4)
			appended(t, l, nil, api.ErrArg)
			appended(t, l, []string{"short"}, api.ErrArg)
			appended(t, l, pagesOf(2, 1), api.ErrState)
			appended(t, l, pagesOf(2, 65), api.ErrState)
			appended(t, l, pagesOf(2, 64), api.ErrState)
			restarted(t, l, api.ErrState)
			isAt(t, l, 0, 4)
			if d.Image() != image {
				t.Fatal("a refused call is on the disk")
			}
			d.Crash(nil, -1, 0)
		}
		again := opened(t, d, s, one)
		appended(t, again, pagesOf(3, 1), api.OK)
		isAt(t, l, 0, 4)
		appended(t, l, pagesOf(3, 1), api.ErrState)
		opened(t, d, s, one, redo.Txn{Seq: 4, Pages: pagesOf(3, 1)})
	}
}

func TestAppendOnADiskThatIsDown(t *testing.T) {
	d := blank(t, 30)
	l := opened(t, d, stretch{0, 25, 1})
	d.Fuse(0)
	d.Flush()
	// No call of this log has ended with a disk's error yet.
	appended(t, l, pagesOf(1, 65), api.ErrBig)
	appended(t, l, pagesOf(1, 3), api.ErrLog)
	isAt(t, l, 25, 1)
	restarted(t, l, api.OK)
	appended(t, l, pagesOf(1, 1), api.ErrDown)
	isAt(t, l, 0, 1)
	restarted(t, l, api.ErrState)
}

// Promise 9.3: Left, Next, Restart.

func TestANilLog(t *testing.T) {
	var l *redo.Log
	for range 2 {
		isAt(t, l, 0, 0)
		restarted(t, l, api.ErrArg)
		appended(t, l, pagesOf(1, 1), api.ErrArg)
	}
}

func TestRestart(t *testing.T) {
	d := blank(t, 70)
	s := stretch{4, 60, 100}
	l := opened(t, d, s)
	restarted(t, l, api.OK)
	isAt(t, l, 60, 100)
	for round := range 6 {
		var all []redo.Txn
		s.seq = l.Next()
		for i := range 1 + round%3 {
			all = append(all, redo.Txn{Seq: l.Next(), Pages: pagesOf(uint64(10*round+i), 1+round%2)})
			appended(t, l, all[i].Pages, api.OK)
			opened(t, d, s, all...)
		}
		next, image := l.Next(), d.Image()
		d.Fuse(0)
		restarted(t, l, api.OK)
		isAt(t, l, 60, next)
		restarted(t, l, api.OK)
		isAt(t, l, 60, next)
		if d.Image() != image || d.Down() {
			t.Error("Restart wrote")
		}
		d.Fuse(-1)
		// What stood there stands till it is written over, by its own numbers alone.
		opened(t, d, s, all...)
		opened(t, d, stretch{4, 60, next})
	}
}

func TestElderTransactionsDoNotStand(t *testing.T) {
	// Wherever the new ones end, what lies behind is of lesser numbers.
	for n := 1; n <= 5; n++ {
		d := blank(t, 60)
		s := stretch{0, 60, 1}
		l := opened(t, d, s)
		for range 6 {
			appended(t, l, pagesOf(l.Next(), 1), api.OK)
		}
		restarted(t, l, api.OK)
		s.seq = 7
		x := redo.Txn{Seq: 7, Pages: pagesOf(70, n)}
		appended(t, l, x.Pages, api.OK)
		l = opened(t, d, s, x)
		appended(t, l, pagesOf(80, 1), api.OK)
		opened(t, d, s, x, redo.Txn{Seq: 8, Pages: pagesOf(80, 1)})
	}
}

// Promise 9.4: whatever the power does.

// likeMarks are pages whose sectors are as like marks as they can be, or have
// marks at any place among their bytes.
func likeMarks(seq uint64, n int) []string {
	mark := headOf(seq, n)
	out := make([]string, n)
	for i := range out {
		shift := (int(seq%64) + 7*i) % 64
		out[i] = strings.Repeat(mark, 9)[shift : shift+512]
		if i%2 == 0 {
			// The eleventh byte is put between these 63.
			out[i] = strings.Repeat(mark[:10]+mark[11:], 9)[:512]
		}
	}
	return out
}

// script is what a crash is told.
type script struct {
	keep        []bool
	torn, bytes int
}

// scripts are crashes of a disk with so many writes that aren't sure.
func scripts(writes int) []script {
	none, all := make([]bool, writes), slices.Repeat([]bool{true}, writes)
	other := make([]bool, writes)
	out := []script{{none, -1, 0}, {all, -1, 0}}
	for i := range writes {
		other[i] = i%2 == 0
		one, rest := slices.Clone(none), slices.Clone(all)
		one[i], rest[i] = true, false
		out = append(out, script{one, -1, 0}, script{rest, -1, 0})
	}
	for i := range writes {
		for _, bytes := range []int{0, 1, 7, 8, 9, 10, 11, 12, 32, 55, 56, 57, 63, 64} {
			for _, keep := range [][]bool{none, all, other} {
				out = append(out, script{keep, i, bytes})
			}
		}
	}
	return out
}

// story is what has been before the power goes: a disk, a log on it, and what
// stands there.
type story struct {
	name  string
	s     stretch
	image string
	want  []redo.Txn
}

// stories are some, of stretches of 40 sectors.
func stories(t *testing.T) []story {
	var out []story
	d := blank(t, 42)
	s := stretch{2, 40, 254}
	l := opened(t, d, s)
	out = append(out, story{"blank", s, d.Image(), nil})
	first := redo.Txn{Seq: 254, Pages: likeMarks(256, 1)}
	appended(t, l, first.Pages, api.OK)
	out = append(out, story{"one", s, d.Image(), []redo.Txn{first}})
	for range 2 {
		appended(t, l, likeMarks(l.Next()+3, 1), api.OK)
	}
	restarted(t, l, api.OK)
	s.seq = 257
	out = append(out, story{"restarted", s, d.Image(), nil})
	next := redo.Txn{Seq: 257, Pages: likeMarks(258, 1)}
	appended(t, l, next.Pages, api.OK)
	out = append(out, story{"one behind a restart", s, d.Image(), []redo.Txn{next}})
	// A transaction of the same number whose mark was torn.
	d.Fuse(9*3 + 2)
	appended(t, l, likeMarks(258, 3), api.ErrDown)
	d.Crash(nil, 0, 30)
	out = append(out, story{"one and a torn one", s, d.Image(), []redo.Txn{next}})
	return out
}

// crashes lets the power go behind so many calls within an Append; it fails the
// test unless all stands behind it that must, and tells whether the new one does.
func crashes(t *testing.T, y story, pages []string, calls int, c script) bool {
	t.Helper()
	d := loaded(t, y.image)
	l := opened(t, d, y.s, y.want...)
	d.Fuse(calls)
	appended(t, l, pages, api.ErrDown)
	d.Crash(c.keep, c.torn, c.bytes)
	_, got, _ := redo.Open(d, y.s.from, y.s.size, y.s.seq)
	want, there := y.want, len(got) > len(y.want)
	if there {
		want = append(slices.Clone(want), redo.Txn{Seq: y.s.seq + uint64(len(want)), Pages: pages})
	}
	// Opened twice it is the same; and the log goes on.
	l = opened(t, d, y.s, want...)
	more := redo.Txn{Seq: l.Next(), Pages: likeMarks(l.Next()+1, 1)}
	if long(1) <= l.Left() {
		appended(t, l, more.Pages, api.OK)
		opened(t, d, y.s, append(slices.Clone(want), more)...)
	}
	return there
}

func TestThePowerGoesInAnAppend(t *testing.T) {
	const n = 2
	for _, y := range stories(t) {
		for calls := range 9*n + 3 {
			pages := likeMarks(y.s.seq+uint64(len(y.want))+1, n)
			writes := calls
			switch {
			case calls == 9*n+1:
				writes = 0
			case calls == 9*n+2:
				writes = 1
			}
			for _, c := range scripts(writes) {
				there := crashes(t, y, pages, calls, c)
				// A mark isn't written till all else is sure.
				if there && calls < 9*n+2 {
					t.Fatalf("%s: a transaction stands behind %d calls", y.name, calls)
				}
			}
		}
	}
}

func TestAMarkThatIsKeptOrTorn(t *testing.T) {
	const calls = 9*2 + 2
	for _, y := range stories(t) {
		pages := likeMarks(y.s.seq+9, 2)
		at := y.s.from
		for _, x := range y.want {
			at += long(len(x.Pages))
		}
		elder, mark := y.image[64*at:64*at+64], headOf(y.s.seq+uint64(len(y.want)), 2)
		for bytes := range 65 {
			whole := mark[:bytes]+elder[bytes:] == mark
			if crashes(t, y, pages, calls, script{nil, 0, bytes}) != whole {
				t.Errorf("%s: a mark torn at %d counts, or one that is whole doesn't", y.name, bytes)
			}
		}
		if !crashes(t, y, pages, calls, script{[]bool{true}, -1, 0}) {
			t.Errorf("%s: a mark that is kept doesn't count", y.name)
		}
		if crashes(t, y, pages, calls, script{nil, -1, 0}) {
			t.Errorf("%s: a mark that isn't kept counts", y.name)
		}
	}
}

// scriptOf is a crash that follows from the seed.
func scriptOf(seed uint64, writes int) script {
	bytes := stir(seed, writes+2)
	keep := make([]bool, writes)
	for i := range keep {
		keep[i] = bytes[i]%2 == 0
	}
	return script{keep, int(bytes[writes]) % (writes + 2), int(bytes[writes+1]) % 65}
}

func TestManyCrashes(t *testing.T) {
	met := [2]int{} // how often the one under way went, and how often it stood
	for seed := range uint64(120) {
		d := blank(t, 60)
		s := stretch{int(seed % 5), 30 + int(seed%25), seed * 200}
		var want []redo.Txn
		l := opened(t, d, s)
		rolls := stir(seed, 4*40)
		for i := 0; i < len(rolls); i += 4 {
			n := 1 + int(rolls[i]%3)
			if long(n) > l.Left() || rolls[i+1]%16 == 0 {
				restarted(t, l, api.OK)
				s.seq, want = l.Next(), nil
			}
			if long(n) > l.Left() {
				continue
			}
			x := redo.Txn{Seq: l.Next(), Pages: likeMarks(l.Next()+uint64(rolls[i+2]%5)-2, n)}
			if rolls[i+1]%3 != 0 {
				appended(t, l, x.Pages, api.OK)
				want = append(want, x)
				opened(t, d, s, want...)
				continue
			}
			// The power goes in the last call but for some.
			d.Fuse(max(0, 9*n+2-int(rolls[i+3]%16)))
			appended(t, l, x.Pages, api.ErrDown)
			c := scriptOf(seed<<8+uint64(i), d.Pending())
			d.Crash(c.keep, c.torn, c.bytes)
			_, got, _ := redo.Open(d, s.from, s.size, s.seq)
			met[min(1, max(0, len(got)-len(want)))]++
			if len(got) > len(want) {
				want = append(want, x)
			}
			l = opened(t, d, s, want...)
		}
	}
	if met[0] < 100 || met[1] < 20 {
		t.Errorf("the power went in %d transactions that went, and in %d that stood", met[0], met[1])
	}
}

// The rules that hold everywhere: what is handed in and out.

func TestWhatIsHandedInIsNotKept(t *testing.T) {
	d := blank(t, 40)
	l := opened(t, d, stretch{0, 40, 1})
	raw := []byte(stir(1, 512))
	text := unsafe.String(&raw[0], len(raw))
	want := strings.Clone(text)
	list := []string{text, stir(2, 512), "spare"}
	appended(t, l, list[:2], api.OK)
	raw[0]++
	raw[511]++
	list[1] = "other"
	if list[2] != "spare" {
		t.Error("spare room was written on")
	}
	opened(t, d, stretch{0, 40, 1}, redo.Txn{Seq: 1, Pages: []string{want, stir(2, 512)}})
}

func TestAppendLeavesTheListAsItIs(t *testing.T) {
	list := pagesOf(1, 3)
	before := slices.Clone(list)
	l := opened(t, blank(t, 40), stretch{0, 40, 1})
	for _, want := range []api.Errno{api.OK, api.ErrLog} {
		appended(t, l, list, want)
		if !slices.Equal(list, before) {
			t.Error("the list was changed")
		}
	}
}

func TestAnswersShareNoMemory(t *testing.T) {
	d := blank(t, 60)
	s := stretch{0, 60, 1}
	l := opened(t, d, s)
	page := stir(1, 512)
	appended(t, l, []string{page, page}, api.OK)
	appended(t, l, []string{page}, api.OK)
	seen := map[*byte]bool{unsafe.StringData(page): true}
	for range 2 {
		_, got, _ := redo.Open(d, 0, 60, 1)
		for _, x := range got {
			for i, p := range x.Pages {
				if seen[unsafe.StringData(p)] {
					t.Error("an answer lies where another text does")
				}
				seen[unsafe.StringData(p)] = true
				x.Pages[i] = "other"
			}
			_ = append(x.Pages, "more")
		}
		got[0].Seq = 9
		_ = append(got[:1], redo.Txn{})
	}
	opened(t, d, s, redo.Txn{Seq: 1, Pages: []string{page, page}}, redo.Txn{Seq: 2, Pages: []string{page}})
}

func TestLogsStandApart(t *testing.T) {
	d := blank(t, 60)
	one, two := stretch{0, 30, 1}, stretch{30, 30, 500}
	a, b := opened(t, d, one), opened(t, d, two)
	x, y := redo.Txn{Seq: 1, Pages: pagesOf(1, 1)}, redo.Txn{Seq: 500, Pages: pagesOf(2, 3)}
	appended(t, a, x.Pages, api.OK)
	appended(t, b, y.Pages, api.OK)
	isAt(t, a, 20, 2)
	isAt(t, b, 2, 501)
	opened(t, d, one, x)
	opened(t, d, two, y)
	d.Fuse(3)
	appended(t, a, x.Pages, api.ErrDown)
	d.Crash(nil, -1, 0)
	isAt(t, a, 0, 2)
	isAt(t, b, 2, 501)
	restarted(t, b, api.OK)
	isAt(t, b, 30, 501)
	opened(t, d, one, x)
}
