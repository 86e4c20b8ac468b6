package pager_test

import (
	"math"
	"slices"
	"strings"
	"testing"

	"croft/api"
	"croft/disk"
	"croft/page"
	"croft/pager"
	"croft/redo"
)

// noughts are n bytes 00.
func noughts(n int) string { return strings.Repeat("\x00", n) }

// low are the lowest bytes of a number, told without the program.
func low(n uint64, size int) string {
	var out []byte
	for range size {
		out = append(out, byte(n%256))
		n /= 256
	}
	return string(out)
}

// padded is a room of its whole length.
func padded(room string) string { return room + noughts(496-len(room)) }

// marked is a mark with a text, told without the program.
func marked(seq uint64, text string) string {
	return low(seq, 8) + text + noughts(48-len(text)) + low(seq, 8)
}

// markOf is the mark that a pager writes, told without the program.
func markOf(seq, first uint64, log int) string {
	return marked(seq, low(first, 8)+low(uint64(log), 4))
}

// headRoom is the room of a page 0, told without the program.
func headRoom(used, free int, roots ...uint64) string {
	out := low(uint64(used), 4) + low(uint64(free), 4)
	for _, n := range roots {
		out += low(n, 8)
	}
	return padded(out)
}

// freeRoom is the room of a free page, told without the program.
func freeRoom(next int) string { return padded(low(uint64(next), 4)) }

// packed are a page's bytes.
func packed(t *testing.T, kind, no int, room string) string {
	t.Helper()
	s, e := page.Pack(kind, no, room)
	if e != api.OK {
		t.Fatalf("Pack(%d, %d): %d", kind, no, e)
	}
	return s
}

// blank answers a disk of bytes 00.
func blank(t *testing.T, sectors int) *disk.Disk {
	t.Helper()
	d, e := disk.New(sectors)
	if e != api.OK {
		t.Fatalf("New(%d): %d", sectors, e)
	}
	return d
}

// loaded answers a disk of these bytes.
func loaded(t *testing.T, image string) *disk.Disk {
	t.Helper()
	d, e := disk.Load(image)
	if e != api.OK {
		t.Fatalf("Load of %d bytes: %d", len(image), e)
	}
	return d
}

// over answers an image with these bytes from a sector on.
func over(image string, sector int, s string) string {
	return image[:64*sector] + s + image[64*sector+len(s):]
}

// placeOf is the first sector of a page, behind a log of so many sectors.
func placeOf(log, no int) int { return 2 + log + 8*no }

// formatted answers a disk behind a Format.
func formatted(t *testing.T, sectors, log int) *disk.Disk {
	t.Helper()
	d := blank(t, sectors)
	if e := pager.Format(d, log); e != api.OK {
		t.Fatalf("Format of %d sectors, %d: %d", sectors, log, e)
	}
	return d
}

// opened answers a pager; it fails the test if Open refuses, or writes.
func opened(t *testing.T, d *disk.Disk, room int) *pager.Pager {
	t.Helper()
	image, pending := d.Image(), d.Pending()
	p, e := pager.Open(d, room)
	if e != api.OK || p == nil {
		t.Fatalf("Open: %d", e)
	}
	if d.Image() != image || d.Pending() != pending || d.Down() {
		t.Fatal("Open changed the disk")
	}
	return p
}

// refused fails the test unless Open answers that error, and no pager.
func refused(t *testing.T, d *disk.Disk, room int, want api.Errno) {
	t.Helper()
	if p, e := pager.Open(d, room); p != nil || e != want {
		t.Errorf("Open = %v, %d, not %d", p != nil, e, want)
	}
}

// made answers a new disk, and a pager on it.
func made(t *testing.T, sectors, log, room int) (*disk.Disk, *pager.Pager) {
	t.Helper()
	d := formatted(t, sectors, log)
	return d, opened(t, d, room)
}

// is fails the test unless a call's answer is the one that is wanted.
func is(t *testing.T, call string, e, want api.Errno) {
	t.Helper()
	if e != want {
		t.Fatalf("%s = %d, not %d", call, e, want)
	}
}

// alloc fails the test unless an Alloc answers so.
func alloc(t *testing.T, p *pager.Pager, kind, no int, want api.Errno) {
	t.Helper()
	if got, e := p.Alloc(kind); got != no || e != want {
		t.Fatalf("Alloc(%d) = %d, %d, not %d, %d", kind, got, e, no, want)
	}
}

// reads fails the test unless a page is of this kind, with bytes 00 behind that.
func reads(t *testing.T, p *pager.Pager, no, kind int, room string) {
	t.Helper()
	if k, r, e := p.Read(no); k != kind || r != padded(room) || e != api.OK {
		t.Fatalf("Read(%d) = %d, %q, %d, not %d, %q", no, k, strings.TrimRight(r, "\x00"), e, kind, room)
	}
}

// unread fails the test unless a Read answers that error and nothing else.
func unread(t *testing.T, p *pager.Pager, no int, want api.Errno) {
	t.Helper()
	if k, r, e := p.Read(no); k != 0 || r != "" || e != want {
		t.Fatalf("Read(%d) = %d, %q, %d, not the error %d", no, k, r, e, want)
	}
}

// root fails the test unless a Root answers so.
func root(t *testing.T, p *pager.Pager, i int, n uint64, want api.Errno) {
	t.Helper()
	if got, e := p.Root(i); got != n || e != want {
		t.Fatalf("Root(%d) = %d, %d, not %d, %d", i, got, e, n, want)
	}
}

// tale is all that a pager tells of its pages.
func tale(t *testing.T, p *pager.Pager) string {
	t.Helper()
	var out strings.Builder
	for no := range p.Pages() {
		kind, room, e := p.Read(no)
		if e != api.OK {
			t.Fatalf("Read(%d) of %d: %d", no, p.Pages(), e)
		}
		out.WriteString(string([]byte{byte(kind)}) + room)
	}
	return out.String()
}

// unchanged fails the test unless a call leaves all that a pager tells, what is
// dirty, and the disk.
func unchanged(t *testing.T, d *disk.Disk, p *pager.Pager, call func()) {
	t.Helper()
	image, pending, told, dirty := d.Image(), d.Pending(), tale(t, p), p.Dirty()
	call()
	if d.Image() != image || d.Pending() != pending || tale(t, p) != told || p.Dirty() != dirty {
		t.Fatal("something was changed")
	}
}

// goesDown lets the power of a disk go.
func goesDown(t *testing.T, d *disk.Disk) {
	t.Helper()
	d.Fuse(0)
	is(t, "Flush", d.Flush(), api.ErrDown)
}

// standing fails the test unless just these transactions stand in the log.
func standing(t *testing.T, d *disk.Disk, log int, first uint64, want ...[]string) {
	t.Helper()
	_, txns, e := redo.Open(d, 2, log, first)
	same := slices.EqualFunc(txns, want, func(x redo.Txn, pages []string) bool { return slices.Equal(x.Pages, pages) })
	if e != api.OK || !same {
		t.Fatalf("%d transactions stand in the log, %d, not these %d", len(txns), e, len(want))
	}
}

// at fails the test unless these bytes stand on a disk.
func at(t *testing.T, d *disk.Disk, sector int, want string) {
	t.Helper()
	if got := d.Image()[64*sector : 64*sector+len(want)]; got != want {
		t.Fatalf("the sector %d begins with %q, not %q", sector, got[:64], want[:64])
	}
}

// wrongKinds are none for whoever calls.
var wrongKinds = []int{math.MinInt, -255, -2, -1, 0, 1, 255, 256, 258, 1<<32 + 2, math.MaxInt}

// Promise 11.1: Format.

func TestFormatOfWrongArguments(t *testing.T) {
	for _, log := range []int{math.MinInt, -1, 0, 9, 10, 20, math.MaxInt} {
		is(t, "Format of nil", pager.Format(nil, log), api.ErrArg)
	}
	for _, sectors := range []int{1, 2, 10, 12, 19, 20, 100, api.MaxSectors} {
		d := loaded(t, strings.Repeat("x", 64*sectors))
		image := d.Image()
		for _, log := range []int{
			math.MinInt, math.MinInt + 1, -10, -1, 0, 1, 9, sectors - 9, sectors - 8, sectors, sectors + 1,
			math.MaxInt - 10, math.MaxInt - 9, math.MaxInt, 1<<32 + 10, 1 << 32,
		} {
			is(t, "Format", pager.Format(d, log), api.ErrArg)
			if d.Image() != image || d.Pending() > 0 {
				t.Errorf("Format of %d sectors, %d writes", sectors, log)
			}
		}
	}
	d := blank(t, 30)
	goesDown(t, d)
	for _, log := range []int{9, 21, -1} {
		is(t, "Format of a disk that is down", pager.Format(d, log), api.ErrArg)
	}
	is(t, "Format of a disk that is down", pager.Format(d, 10), api.ErrDown)
}

func TestFormatWritesTheseBytes(t *testing.T) {
	for _, x := range [][2]int{{20, 10}, {21, 10}, {21, 11}, {27, 10}, {28, 10}, {100, 20}, {100, 90}, {700, 300}, {700, 690}} {
		sectors, log := x[0], x[1]
		d := formatted(t, sectors, log)
		want := noughts(64) + markOf(1, 1, log) + noughts(64*log) + packed(t, 1, 0, headRoom(1, 0))
		want += noughts(64*sectors - len(want))
		if d.Image() != want || d.Pending() != 0 {
			t.Errorf("Format of %d sectors, %d: other bytes", sectors, log)
		}
		p := opened(t, d, 2)
		if p.Most() != (sectors-2-log)/8 || p.Pages() != 1 || p.Dirty() != 0 {
			t.Errorf("Format of %d sectors, %d: Most %d, Pages %d, Dirty %d", sectors, log, p.Most(), p.Pages(), p.Dirty())
		}
		reads(t, p, 0, 1, headRoom(1, 0))
		for i := range 8 {
			root(t, p, i, 0, api.OK)
		}
	}
	is(t, "Format of the greatest disk", pager.Format(blank(t, api.MaxSectors), 10), api.OK)
	is(t, "Format of the greatest disk", pager.Format(blank(t, api.MaxSectors), api.MaxSectors-10), api.OK)
}

// elder answers a disk that had another pager on it: transactions of one page
// each stand in its log, of the numbers 1 to 6, and its marks' numbers are high.
func elder(t *testing.T) *disk.Disk {
	t.Helper()
	image := formatted(t, 100, 60).Image()
	image = over(image, placeOf(60, 0), packed(t, 1, 0, headRoom(2, 0)))
	d := loaded(t, over(image, 0, markOf(70, 1, 60)+markOf(69, 1, 60)))
	l, _, e := redo.Open(d, 2, 60, 1)
	is(t, "Open of the log", e, api.OK)
	for range 6 {
		is(t, "Append", l.Append([]string{packed(t, 9, 1, "elder")}), api.OK)
	}
	reads(t, opened(t, d, 2), 1, 9, "elder")
	return d
}

func TestFormatOverAnElderDisk(t *testing.T) {
	for log := 10; log <= 90; log++ {
		d := elder(t)
		is(t, "Format", pager.Format(d, log), api.OK)
		p := opened(t, d, 4)
		if p.Pages() != 1 || p.Most() != (98-log)/8 {
			t.Fatalf("Pages %d, Most %d", p.Pages(), p.Most())
		}
		reads(t, p, 0, 1, headRoom(1, 0))
		// Each of these ends where an elder one of the next number began.
		for i := range 3 {
			is(t, "SetRoot", p.SetRoot(0, uint64(i+5)), api.OK)
			is(t, "Commit", p.Commit(), api.OK)
			q := opened(t, d, 4)
			if q.Pages() != 1 {
				t.Fatalf("log %d: elder pages are there", log)
			}
			root(t, q, 0, uint64(i+5), api.OK)
		}
	}
}

// cut answers a disk on which the power goes in a Format behind so many calls,
// and a crash keeps what the script says; false, if it doesn't go.
func cut(t *testing.T, d *disk.Disk, calls int, keep func(i, writes int) bool) bool {
	t.Helper()
	d.Fuse(calls)
	e := pager.Format(d, 20)
	if e == api.OK {
		return false
	}
	is(t, "Format", e, api.ErrDown)
	kept := make([]bool, d.Pending())
	for i := range kept {
		kept[i] = keep(i, len(kept))
	}
	d.Crash(kept, -1, 0)
	return true
}

func TestThePowerGoesInAFormat(t *testing.T) {
	keeps := []func(i, writes int) bool{
		func(int, int) bool { return false },
		func(int, int) bool { return true },
		func(i, _ int) bool { return i == 0 },
		func(i, writes int) bool { return i == writes-1 },
		func(i, writes int) bool { return i != writes-1 },
		func(i, _ int) bool { return i%2 == 0 },
		func(i, _ int) bool { return i%2 == 1 },
	}
	for _, start := range []func() *disk.Disk{
		func() *disk.Disk { return blank(t, 40) },
		func() *disk.Disk { return loaded(t, strings.Repeat("x", 64*40)) },
		func() *disk.Disk { return elder(t) },
	} {
		for _, keep := range keeps {
			for calls := 0; ; calls++ {
				d := start()
				if !cut(t, d, calls, keep) {
					break
				}
				p, e := pager.Open(d, 4)
				if e == api.ErrBad {
					continue
				}
				// It counts wholly, or the elder one does.
				is(t, "Open", e, api.OK)
				if p.Pages() == 2 {
					reads(t, p, 1, 9, "elder")
					continue
				}
				reads(t, p, 0, 1, headRoom(1, 0))
				if p.Most() != (d.Len()-22)/8 {
					t.Fatalf("Most = %d", p.Most())
				}
			}
		}
	}
}

func TestFormatsMarkComesLast(t *testing.T) {
	calls := 0
	for none := func(int, int) bool { return false }; cut(t, blank(t, 40), calls, none); {
		calls++
	}
	// The last call flushes the mark alone.
	d := blank(t, 40)
	d.Fuse(calls - 1)
	is(t, "Format", pager.Format(d, 20), api.ErrDown)
	if d.Pending() != 1 {
		t.Fatalf("%d writes aren't sure ahead of the last flush", d.Pending())
	}
	image := d.Image()
	if image[64:128] != noughts(64) || image[64*22:64*30] != packed(t, 1, 0, headRoom(1, 0)) {
		t.Error("all but the mark isn't sure ahead of it")
	}
	d.Crash([]bool{true}, -1, 0)
	reads(t, opened(t, d, 2), 0, 1, headRoom(1, 0))
	for bytes := range 65 {
		d = loaded(t, image)
		is(t, "Write", d.Write(1, markOf(1, 1, 20)), api.OK)
		d.Crash(nil, 0, bytes)
		p, e := pager.Open(d, 2)
		whole := bytes == 64 || d.Image()[64:128] == markOf(1, 1, 20)
		if whole != (e == api.OK) || !whole && (p != nil || e != api.ErrBad) {
			t.Errorf("a mark torn at %d: Open = %d", bytes, e)
		}
	}
}

// Promise 11.2: Open.

func TestOpenOfWrongArguments(t *testing.T) {
	d := formatted(t, 40, 10)
	rooms := []int{math.MinInt, -2, -1, 0, 1, 65537, 1 << 32, 1<<32 + 2, math.MaxInt}
	for _, room := range rooms {
		refused(t, d, room, api.ErrArg)
		refused(t, nil, room, api.ErrArg)
		refused(t, blank(t, 1), room, api.ErrArg)
	}
	refused(t, nil, 2, api.ErrArg)
	for _, room := range []int{2, 3, 65535, 65536} {
		opened(t, d, room)
	}
	goesDown(t, d)
	for _, room := range rooms {
		refused(t, d, room, api.ErrArg)
	}
	refused(t, d, 2, api.ErrDown)
	e := blank(t, 30)
	goesDown(t, e)
	refused(t, e, 2, api.ErrDown)
	d.Crash(nil, -1, 0)
	opened(t, d, 2)
}

func TestOpenTakesNoPower(t *testing.T) {
	d := formatted(t, 40, 10)
	d.Fuse(0)
	if opened(t, d, 2).Pages() != 1 || d.Down() {
		t.Error("Open of a disk at its last call")
	}
}

func TestOpenOfMarksThatAreNone(t *testing.T) {
	for _, n := range []int{1, 2, 3, 20, 40, 300} {
		refused(t, blank(t, n), 2, api.ErrBad)
		refused(t, loaded(t, strings.Repeat("\xff", 64*n)), 2, api.ErrBad)
		refused(t, loaded(t, strings.Repeat("x", 64*n)), 2, api.ErrBad)
	}
	good := formatted(t, 40, 20).Image()
	text := low(1, 8) + low(20, 4)
	for name, mark := range map[string]string{
		"the number 0":        marked(0, text),
		"a torn one":          low(1, 8) + text + noughts(36) + low(2, 8),
		"nothing":             noughts(64),
		"no text":             marked(1, ""),
		"more text":           marked(1, text+"\x01"),
		"text at the end":     marked(1, text+noughts(35)+"\x01"),
		"a log of 9":          markOf(1, 1, 9),
		"a log of 0":          markOf(1, 1, 0),
		"a log of 31":         markOf(1, 1, 31),
		"a log of 38":         markOf(1, 1, 38),
		"a log of 40":         markOf(1, 1, 40),
		"a log of 2^31":       markOf(1, 1, 1<<31),
		"a log of 2^32 - 1":   markOf(1, 1, 1<<32-1),
		"a log of 2^32 - 20":  markOf(1, 1, 1<<32-20),
		"numbers swapped":     marked(1, low(20, 4)+low(1, 8)),
		"a log, a byte later": marked(1, low(1, 9)+low(20, 4)),
	} {
		if p, e := pager.Open(loaded(t, over(good, 1, mark)), 2); p != nil || e != api.ErrBad {
			t.Errorf("a mark with %s: %v, %d", name, p != nil, e)
		}
	}
	// The number 0 doesn't count beside none, where any other one does.
	none := strings.Repeat("x", 63) + "y"
	refused(t, loaded(t, over(good, 0, marked(0, text)+none)), 2, api.ErrBad)
	refused(t, loaded(t, over(good, 0, none+marked(0, text))), 2, api.ErrBad)
	opened(t, loaded(t, over(good, 0, marked(2, text)+none)), 2)
	// On a disk of one sector, or of a log alone, there is no page.
	refused(t, loaded(t, markOf(2, 1, 10)), 2, api.ErrBad)
	refused(t, loaded(t, good[:64*29]), 2, api.ErrBad)
	opened(t, loaded(t, good[:64*30]), 2)
}

func TestOpenOfTheBetterMark(t *testing.T) {
	image := formatted(t, 100, 20).Image()
	image = over(image, placeOf(36, 0), packed(t, 1, 0, headRoom(2, 0, 77)))
	for _, x := range []struct {
		mark0, mark1 string
		most         int
	}{
		{noughts(64), markOf(1, 1, 20), 9},
		{markOf(2, 1, 36), markOf(1, 1, 20), 7},
		{markOf(2, 1, 36), markOf(3, 1, 20), 9},
		{markOf(4, 1, 36), markOf(3, 1, 20), 7},
		{markOf(1<<63, 1, 36), markOf(1<<63+1, 1, 20), 9},
		{markOf(math.MaxUint64-1, 1, 36), markOf(math.MaxUint64, 1, 20), 9},
		{markOf(2, 1, 36)[:63] + "x", markOf(1, 1, 20), 9},
		{markOf(2, 1, 36), markOf(3, 1, 20)[:63] + "x", 7},
	} {
		p := opened(t, loaded(t, over(image, 0, x.mark0+x.mark1)), 2)
		if p.Most() != x.most {
			t.Errorf("Most = %d, not %d", p.Most(), x.most)
		}
		if x.most == 7 {
			root(t, p, 0, 77, api.OK)
		}
	}
}

func TestOpenOfPagesNought(t *testing.T) {
	const log = 20
	good := formatted(t, 100, log).Image()
	for used := range 12 {
		for free := range 12 {
			d := loaded(t, over(good, placeOf(log, 0), packed(t, 1, 0, headRoom(used, free))))
			if 1 <= used && used <= 9 && free < used {
				if p := opened(t, d, 2); p.Pages() != used {
					t.Errorf("%d, %d: Pages = %d", used, free, p.Pages())
				}
				continue
			}
			refused(t, d, 2, api.ErrBad)
		}
	}
	right := packed(t, 1, 0, headRoom(1, 0))
	for name, bytes := range map[string]string{
		"a wrong sum":         right[:511] + "x",
		"another number":      packed(t, 1, 1, headRoom(1, 0)),
		"the kind 2":          packed(t, 2, 0, headRoom(1, 0)),
		"the kind 255":        packed(t, 255, 0, headRoom(1, 0)),
		"nothing":             noughts(512),
		"an empty room":       packed(t, 1, 0, ""),
		"2^32 - 1 in use":     packed(t, 1, 0, headRoom(1<<32-1, 0)),
		"2^31 in use":         packed(t, 1, 0, headRoom(1<<31, 0)),
		"a free one at 2^32":  packed(t, 1, 0, headRoom(1, 1<<32-1)),
		"a ninth root":        packed(t, 1, 0, headRoom(1, 0, 0, 0, 0, 0, 0, 0, 0, 0, 1)),
		"a byte at the end":   packed(t, 1, 0, headRoom(1, 0)[:495]+"x"),
		"one behind the rest": packed(t, 1, 0, headRoom(1, 0, 1, 2, 3, 4, 5, 6, 7, 8)[:72]+"\x01"),
	} {
		if p, e := pager.Open(loaded(t, over(good, placeOf(log, 0), bytes)), 2); p != nil || e != api.ErrBad {
			t.Errorf("a page 0 with %s: %v, %d", name, p != nil, e)
		}
	}
	p := opened(t, loaded(t, over(good, placeOf(log, 0), packed(t, 1, 0, headRoom(9, 8, 1, 2, 3, 4, 5, 6, 7, math.MaxUint64)))), 2)
	for i := range 7 {
		root(t, p, i, uint64(i+1), api.OK)
	}
	root(t, p, 7, math.MaxUint64, api.OK)
}

// logged answers a disk of 300 sectors with these transactions in its log of
// 200, the first one of the number first.
func logged(t *testing.T, image string, first uint64, txns ...[]string) *disk.Disk {
	t.Helper()
	d := loaded(t, image)
	l, _, e := redo.Open(d, 2, 200, first)
	is(t, "Open of the log", e, api.OK)
	for _, pages := range txns {
		is(t, "Append", l.Append(pages), api.OK)
	}
	return d
}

func TestOpenOfTransactions(t *testing.T) {
	image := formatted(t, 300, 200).Image()
	two := packed(t, 1, 0, headRoom(2, 0))
	full := packed(t, 1, 0, headRoom(12, 0))
	if p := opened(t, logged(t, image, 1), 2); p.Most() != 12 {
		t.Fatalf("Most = %d", p.Most())
	}
	bad := packed(t, 3, 1, "x")
	for name, txns := range map[string][][]string{
		"a page with a wrong sum":       {{two, bad[:511] + "x"}},
		"a page of noughts":             {{two, noughts(512)}},
		"a page that is no text":        {{two}, {strings.Repeat("x", 512)}},
		"one that is repaired later":    {{two, bad[:511] + "x"}, {bad}},
		"a wrong sum, then a page 0":    {{bad[:511] + "x", two}},
		"a wrong sum ahead of a page 0": {{bad[:511] + "x"}, {two}},
		"a page 12":                     {{two, packed(t, 3, 12, "")}},
		"a page 2^31 - 1":               {{two, packed(t, 3, math.MaxInt32, "")}},
		"a page 12, then one below it":  {{two}, {packed(t, 3, 12, "")}, {bad}},
		"a page 0 of the kind 2":        {{packed(t, 2, 0, headRoom(1, 0))}},
		"a page 0 of too many pages":    {{packed(t, 1, 0, headRoom(13, 0))}},
		"a right page 0, then a wrong":  {{two}, {packed(t, 1, 0, headRoom(0, 0))}},
		"a page 0 that is twice there":  {{two, packed(t, 1, 0, headRoom(2, 2))}},
		"a page 0 with a byte too much": {{two, packed(t, 1, 0, headRoom(2, 1)[:72]+"\x01")}},
	} {
		if p, e := pager.Open(logged(t, image, 1, txns...), 2); p != nil || e != api.ErrBad {
			t.Errorf("%s: %v, %d", name, p != nil, e)
		}
	}
	for name, txns := range map[string][][]string{
		"a wrong page 0, then a right one": {{packed(t, 2, 0, "")}, {two}},
		"the last page":                    {{full, packed(t, 3, 11, "")}},
		"a page that isn't in use":         {{two, packed(t, 3, 11, "")}},
		"one page twice":                   {{two, bad, packed(t, 4, 1, "last")}},
		"one page, twice again":            {{two}, {bad}, {packed(t, 4, 1, "last")}},
		"a page of the kind 1":             {{two, packed(t, 1, 1, "")}},
	} {
		p, e := pager.Open(logged(t, image, 1, txns...), 2)
		if p == nil || e != api.OK {
			t.Errorf("%s: %v, %d", name, p != nil, e)
			continue
		}
		if strings.HasPrefix(name, "one page") {
			reads(t, p, 1, 4, "last")
		}
	}
	// What stands at a page's place doesn't count, where the log has the page.
	broken := over(image, placeOf(200, 0), strings.Repeat("x", 512))
	refused(t, loaded(t, broken), 2, api.ErrBad)
	if p := opened(t, logged(t, broken, 1, []string{two}), 2); p.Pages() != 2 {
		t.Errorf("Pages = %d", p.Pages())
	}
}

func TestOpenGoesByTheFirstNumber(t *testing.T) {
	image := formatted(t, 300, 200).Image()
	two := packed(t, 1, 0, headRoom(2, 0))
	for _, first := range []uint64{0, 2, 257, 1 << 40, math.MaxUint64} {
		d := logged(t, over(image, 0, markOf(2, first, 200)), first, []string{two})
		if p := opened(t, d, 2); p.Pages() != 2 {
			t.Errorf("first %d: Pages = %d", first, p.Pages())
		}
		d = logged(t, over(image, 0, markOf(2, first+1, 200)), first, []string{two})
		if p := opened(t, d, 2); p.Pages() != 1 {
			t.Errorf("first %d: an elder transaction counts", first)
		}
	}
}

func TestOpenHasNoTransactionUnderWay(t *testing.T) {
	d, p := made(t, 100, 40, 4)
	alloc(t, p, 2, 1, api.OK)
	q := opened(t, d, 4)
	if q.Dirty() != 0 || q.Pages() != 1 {
		t.Errorf("Dirty %d, Pages %d", q.Dirty(), q.Pages())
	}
	is(t, "Checkpoint", q.Checkpoint(), api.OK)
}

// Promise 11.3: Most, Pages, Read, Root.

func TestOfANilPager(t *testing.T) {
	var p *pager.Pager
	if p.Most() != 0 || p.Pages() != 0 || p.Dirty() != 0 {
		t.Errorf("Most %d, Pages %d, Dirty %d", p.Most(), p.Pages(), p.Dirty())
	}
	for _, i := range []int{-1, 0, 1, 7, 8, math.MaxInt} {
		unread(t, p, i, api.ErrArg)
		root(t, p, i, 0, api.ErrArg)
		is(t, "SetRoot", p.SetRoot(i, 1), api.ErrArg)
		is(t, "Write", p.Write(i, 2, ""), api.ErrArg)
		is(t, "Free", p.Free(i), api.ErrArg)
		alloc(t, p, i, 0, api.ErrArg)
	}
	is(t, "Commit", p.Commit(), api.ErrArg)
	is(t, "Checkpoint", p.Checkpoint(), api.ErrArg)
	p.Abort()
}

func TestWhileTheDiskIsDown(t *testing.T) {
	d, p := made(t, 100, 40, 8)
	alloc(t, p, 2, 1, api.OK)
	is(t, "Commit", p.Commit(), api.OK)
	is(t, "Write", p.Write(1, 3, "x"), api.OK)
	goesDown(t, d)
	if p.Pages() != 0 || p.Most() != 7 || p.Dirty() != 1 {
		t.Errorf("Pages %d, Most %d, Dirty %d", p.Pages(), p.Most(), p.Dirty())
	}
	for _, no := range []int{0, 1, 2, 7, 100, math.MaxInt} {
		unread(t, p, no, api.ErrDown)
	}
	for i := range 8 {
		root(t, p, i, 0, api.ErrDown)
		is(t, "SetRoot", p.SetRoot(i, 1), api.ErrDown)
	}
	alloc(t, p, 2, 0, api.ErrDown)
	// An argument that may not be comes ahead of it; there are no pages in use.
	unread(t, p, -1, api.ErrArg)
	root(t, p, -1, 0, api.ErrArg)
	root(t, p, 8, 0, api.ErrArg)
	is(t, "SetRoot", p.SetRoot(8, 1), api.ErrArg)
	alloc(t, p, 1, 0, api.ErrArg)
	is(t, "Write", p.Write(1, 2, ""), api.ErrArg)
	is(t, "Free", p.Free(1), api.ErrArg)
	// The power is there again, and no Commit was cut.
	d.Crash(nil, -1, 0)
	reads(t, p, 1, 3, "x")
	is(t, "Commit", p.Commit(), api.OK)
	reads(t, opened(t, d, 2), 1, 3, "x")
}

func TestReadOfWrongArguments(t *testing.T) {
	_, p := made(t, 100, 20, 8)
	alloc(t, p, 2, 1, api.OK)
	for _, no := range []int{math.MinInt, math.MinInt32, -1, 2, 3, 8, 9, 10, 1 << 31, 1 << 32, math.MaxInt} {
		unread(t, p, no, api.ErrArg)
	}
	for _, i := range []int{math.MinInt, -8, -1, 8, 9, 1 << 32, math.MaxInt} {
		root(t, p, i, 0, api.ErrArg)
		is(t, "SetRoot", p.SetRoot(i, 1), api.ErrArg)
	}
	reads(t, p, 0, 1, headRoom(2, 0))
	reads(t, p, 1, 2, "")
}

func TestReadOfPagesThatCannotBeRead(t *testing.T) {
	good := formatted(t, 100, 20).Image()
	good = over(good, placeOf(20, 0), packed(t, 1, 0, headRoom(4, 3)))
	right := packed(t, 7, 1, "x")
	for _, x := range []struct {
		bytes string
		want  api.Errno
	}{
		{right, api.OK},
		{packed(t, 1, 1, "x"), api.OK},
		{packed(t, 255, 1, "x"), api.OK},
		{right[:511] + "x", api.ErrSum},
		{packed(t, 7, 2, "x"), api.ErrPage},
		{packed(t, 7, 0, "x"), api.ErrPage},
		{noughts(512), api.ErrSum},
	} {
		d := loaded(t, over(good, placeOf(20, 1), x.bytes))
		p := opened(t, d, 2)
		_, _, want := page.Unpack(x.bytes, 1)
		is(t, "Unpack", want, x.want)
		for range 2 {
			if x.want == api.OK {
				reads(t, p, 1, int(x.bytes[4]), "x")
			} else {
				unread(t, p, 1, x.want)
				is(t, "Free", p.Free(1), x.want)
			}
		}
		// A page that can't be read can be written, though, and is whole then.
		is(t, "Write", p.Write(1, 9, "new"), api.OK)
		reads(t, p, 1, 9, "new")
		p.Abort()
		if x.want != api.OK {
			unread(t, p, 1, x.want)
		}
	}
}

func TestWhatCountsOfAPage(t *testing.T) {
	for _, room := range []int{2, 3, 64} {
		d, p := made(t, 200, 100, room)
		alloc(t, p, 2, 1, api.OK)
		is(t, "Write", p.Write(1, 2, "first"), api.OK)
		is(t, "Commit", p.Commit(), api.OK)
		is(t, "Checkpoint", p.Checkpoint(), api.OK)
		reads(t, p, 1, 2, "first")
		reads(t, opened(t, d, room), 1, 2, "first")
		for _, s := range []string{"second", "third"} {
			is(t, "Write", p.Write(1, 3, s), api.OK)
			is(t, "Commit", p.Commit(), api.OK)
			reads(t, p, 1, 3, s)
			at(t, d, placeOf(100, 1), packed(t, 2, 1, "first"))
		}
		reads(t, opened(t, d, room), 1, 3, "third")
		is(t, "Write", p.Write(1, 4, "under way"), api.OK)
		reads(t, p, 1, 4, "under way")
		reads(t, opened(t, d, room), 1, 3, "third")
		p.Abort()
		reads(t, p, 1, 3, "third")
	}
}

func TestMorePagesThanAreAtHand(t *testing.T) {
	// With room for two, pages go and come again: from the log, and from the disk.
	d, p := made(t, 400, 200, 2)
	for no := 1; no <= 20; no++ {
		alloc(t, p, 2+no%5, no, api.OK)
		is(t, "Commit", p.Commit(), api.OK)
		is(t, "Write", p.Write(no, 2+no%5, strings.Repeat(string(rune('a'+no)), no)), api.OK)
		is(t, "Commit", p.Commit(), api.OK)
		if no == 10 {
			is(t, "Checkpoint", p.Checkpoint(), api.OK)
		}
	}
	for range 2 {
		for _, q := range []*pager.Pager{p, opened(t, d, 2), opened(t, d, 65536)} {
			for i := range 40 {
				no := 1 + i*7%20
				reads(t, q, no, 2+no%5, strings.Repeat(string(rune('a'+no)), no))
			}
		}
		is(t, "Checkpoint", p.Checkpoint(), api.OK)
	}
	// Two dirty ones leave no room at all: others are read all the same.
	is(t, "Write", p.Write(5, 9, "five"), api.OK)
	is(t, "SetRoot", p.SetRoot(1, 11), api.OK)
	for no := 1; no <= 20; no++ {
		if no != 5 {
			reads(t, p, no, 2+no%5, strings.Repeat(string(rune('a'+no)), no))
		}
	}
	reads(t, p, 5, 9, "five")
	root(t, p, 1, 11, api.OK)
}

// Promise 11.4: Write, Alloc, Free, SetRoot.

func TestWriteOfWrongArguments(t *testing.T) {
	d, p := made(t, 100, 60, 2)
	alloc(t, p, 2, 1, api.OK)
	is(t, "Commit", p.Commit(), api.OK)
	is(t, "Write", p.Write(1, 2, "x"), api.OK)
	is(t, "SetRoot", p.SetRoot(0, 1), api.OK)
	long := strings.Repeat("x", 497)
	unchanged(t, d, p, func() {
		for _, no := range []int{math.MinInt, -1, 0, 2, 3, 4, 100, 1<<32 + 1, math.MaxInt} {
			is(t, "Write", p.Write(no, 2, "y"), api.ErrArg)
			is(t, "Write", p.Write(no, 2, long), api.ErrArg)
			is(t, "Free", p.Free(no), api.ErrArg)
		}
		for _, kind := range wrongKinds {
			is(t, "Write", p.Write(1, kind, "y"), api.ErrArg)
			is(t, "Write", p.Write(1, kind, long), api.ErrArg)
			is(t, "Write", p.Write(9, kind, "y"), api.ErrArg)
			alloc(t, p, kind, 0, api.ErrArg)
		}
		is(t, "Write", p.Write(1, 2, long), api.ErrLarge)
		is(t, "Write", p.Write(1, 2, strings.Repeat("x", 4096)), api.ErrLarge)
	})
}

func TestWriteOfAllKindsAndLengths(t *testing.T) {
	d, p := made(t, 100, 60, 4)
	alloc(t, p, 2, 1, api.OK)
	for kind := 2; kind <= 254; kind++ {
		is(t, "Write", p.Write(1, kind, "x"), api.OK)
		reads(t, p, 1, kind, "x")
	}
	for _, n := range []int{496, 495, 300, 3, 1, 0} {
		// Nothing of the longer one is left behind a shorter one.
		room := strings.Repeat("\xff", n)
		is(t, "Write", p.Write(1, 2, room), api.OK)
		reads(t, p, 1, 2, room)
		is(t, "Commit", p.Commit(), api.OK)
		reads(t, p, 1, 2, room)
		reads(t, opened(t, d, 2), 1, 2, room)
	}
}

func TestTooManyDirtyPages(t *testing.T) {
	d, p := made(t, 300, 100, 4)
	for no := 1; no <= 9; no++ {
		alloc(t, p, 2, no, api.OK)
		is(t, "Commit", p.Commit(), api.OK)
	}
	is(t, "Free", p.Free(9), api.OK)
	is(t, "Commit", p.Commit(), api.OK)
	for no := 1; no <= 4; no++ {
		is(t, "Write", p.Write(no, 3, "x"), api.OK)
	}
	unchanged(t, d, p, func() {
		is(t, "Write", p.Write(5, 3, "x"), api.ErrBig)
		is(t, "Write", p.Write(9, 3, "x"), api.ErrBig)
		is(t, "SetRoot", p.SetRoot(3, 4), api.ErrBig)
		// All of these come ahead of it.
		is(t, "Write", p.Write(5, 3, strings.Repeat("x", 497)), api.ErrLarge)
		is(t, "Write", p.Write(5, 1, "x"), api.ErrArg)
		is(t, "Free", p.Free(9), api.ErrNone)
		is(t, "SetRoot", p.SetRoot(8, 4), api.ErrArg)
	})
	// A page that is dirty can be changed again.
	is(t, "Write", p.Write(4, 5, "y"), api.OK)
	reads(t, p, 4, 5, "y")
	is(t, "Commit", p.Commit(), api.OK)
	if p.Dirty() != 0 {
		t.Errorf("Dirty = %d", p.Dirty())
	}
	reads(t, opened(t, d, 2), 4, 5, "y")

	for _, dirty := range []int{3, 4} {
		for name, call := range map[string]func() api.Errno{
			"Alloc": func() api.Errno { _, e := p.Alloc(2); return e },
			"Free":  func() api.Errno { return p.Free(8) },
		} {
			told := tale(t, p)
			for no := 1; no <= dirty; no++ {
				is(t, "Write", p.Write(no, 3, "z"), api.OK)
			}
			is(t, name, call(), api.ErrBig)
			p.Abort()
			if tale(t, p) != told || p.Dirty() != 0 {
				t.Errorf("%s: something is left behind an Abort", name)
			}
		}
	}
	// The page 0 is one of them: three and it fit.
	for _, no := range []int{1, 2} {
		is(t, "Write", p.Write(no, 3, "w"), api.OK)
	}
	alloc(t, p, 6, 9, api.OK)
	is(t, "Free", p.Free(9), api.OK)
	is(t, "Free", p.Free(1), api.OK)
	is(t, "SetRoot", p.SetRoot(0, 1), api.OK)
	if p.Dirty() != 4 {
		t.Errorf("Dirty = %d", p.Dirty())
	}
}

func TestAllocAndFree(t *testing.T) {
	d, p := made(t, 100, 40, 64)
	if p.Most() != 7 {
		t.Fatalf("Most = %d", p.Most())
	}
	for no := 1; no <= 6; no++ {
		alloc(t, p, 1+no, no, api.OK)
		reads(t, p, no, 1+no, "")
		reads(t, p, 0, 1, headRoom(no+1, 0))
		if p.Pages() != no+1 || p.Dirty() != no+1 {
			t.Fatalf("Pages %d, Dirty %d", p.Pages(), p.Dirty())
		}
	}
	unchanged(t, d, p, func() { alloc(t, p, 2, 0, api.ErrFull) })
	// The one that was freed last comes first.
	next := 0
	for _, no := range []int{3, 1, 6} {
		is(t, "Write", p.Write(no, 7, "gone"), api.OK)
		is(t, "Free", p.Free(no), api.OK)
		reads(t, p, no, 255, freeRoom(next))
		reads(t, p, 0, 1, headRoom(7, no))
		next = no
	}
	unchanged(t, d, p, func() {
		for _, no := range []int{3, 1, 6} {
			is(t, "Free", p.Free(no), api.ErrNone)
		}
	})
	if p.Pages() != 7 {
		t.Errorf("Pages = %d", p.Pages())
	}
	for i, no := range []int{6, 1, 3} {
		alloc(t, p, 9, no, api.OK)
		reads(t, p, no, 9, "")
		reads(t, p, 0, 1, headRoom(7, []int{1, 3, 0}[i]))
	}
	alloc(t, p, 2, 0, api.ErrFull)
	is(t, "Free", p.Free(2), api.OK)
	alloc(t, p, 254, 2, api.OK)
	reads(t, p, 2, 254, "")
}

func TestAllocOfPagesThatAreNotFree(t *testing.T) {
	const log = 40
	good := formatted(t, 200, log).Image()
	right := packed(t, 255, 3, freeRoom(2))
	for _, x := range []struct {
		bytes string
		want  api.Errno
	}{
		{right, api.OK},
		{packed(t, 255, 3, freeRoom(0)), api.OK},
		{packed(t, 255, 3, freeRoom(4)), api.OK},
		{packed(t, 255, 3, freeRoom(5)), api.ErrBad},
		{packed(t, 255, 3, freeRoom(1<<31)), api.ErrBad},
		{packed(t, 255, 3, freeRoom(1<<32-1)), api.ErrBad},
		{packed(t, 254, 3, freeRoom(2)), api.ErrBad},
		{packed(t, 1, 3, freeRoom(2)), api.ErrBad},
		{packed(t, 255, 3, freeRoom(2)[:4]+"\x01"), api.ErrBad},
		{packed(t, 255, 3, freeRoom(2)[:495]+"\x01"), api.ErrBad},
		{right[:511] + "x", api.ErrSum},
		{packed(t, 255, 2, freeRoom(2)), api.ErrPage},
		{noughts(512), api.ErrSum},
	} {
		image := over(good, placeOf(log, 0), packed(t, 1, 0, headRoom(5, 3)))
		image = over(image, placeOf(log, 1), packed(t, 2, 1, "one")+packed(t, 255, 2, freeRoom(0))+x.bytes)
		d := loaded(t, image)
		p := opened(t, d, 64)
		if x.want == api.OK {
			alloc(t, p, 6, 3, api.OK)
			reads(t, p, 3, 6, "")
			continue
		}
		for range 2 {
			alloc(t, p, 6, 0, x.want)
			alloc(t, p, 1, 0, api.ErrArg)
			reads(t, p, 0, 1, headRoom(5, 3))
			if p.Dirty() != 0 || d.Image() != image {
				t.Error("an Alloc that is refused changes something")
			}
		}
		// That it is free isn't asked of one that isn't told by the page 0.
		is(t, "Free", p.Free(1), api.OK)
		alloc(t, p, 6, 1, api.OK)
	}
}

func TestAllocOfAFreePageThatWasWritten(t *testing.T) {
	_, p := made(t, 100, 40, 8)
	alloc(t, p, 2, 1, api.OK)
	is(t, "Free", p.Free(1), api.OK)
	is(t, "Write", p.Write(1, 9, "x"), api.OK)
	reads(t, p, 1, 9, "x")
	alloc(t, p, 2, 0, api.ErrBad)
	reads(t, p, 0, 1, headRoom(2, 1))
}

func TestRoots(t *testing.T) {
	d, p := made(t, 100, 40, 8)
	want := make([]uint64, 8)
	for round := range 3 {
		for i := range 8 {
			want[i] = []uint64{math.MaxUint64, 0, 1 << 63}[round] - uint64(i*258)
			is(t, "SetRoot", p.SetRoot(i, want[i]), api.OK)
			if p.Dirty() != 1 {
				t.Fatalf("Dirty = %d", p.Dirty())
			}
			for j, n := range want {
				root(t, p, j, n, api.OK)
			}
			reads(t, p, 0, 1, headRoom(1, 0, want...))
		}
		is(t, "Commit", p.Commit(), api.OK)
		q := opened(t, d, 2)
		for j, n := range want {
			root(t, q, j, n, api.OK)
		}
	}
	// A root that is what it was is a change, as any other.
	is(t, "SetRoot", p.SetRoot(0, want[0]), api.OK)
	if p.Dirty() != 1 {
		t.Errorf("Dirty = %d", p.Dirty())
	}
}

// Promise 11.5: Commit, Abort, Dirty.

func TestCommitOfNothing(t *testing.T) {
	d, p := made(t, 100, 40, 8)
	d.Fuse(0)
	for range 3 {
		is(t, "Commit", p.Commit(), api.OK)
	}
	p.Abort()
	is(t, "Commit", p.Commit(), api.OK)
	alloc(t, p, 2, 1, api.OK)
	p.Abort()
	is(t, "Commit", p.Commit(), api.OK)
	if d.Down() || d.Pending() != 0 {
		t.Error("a Commit of nothing writes")
	}
	goesDown(t, d)
	is(t, "Commit of nothing while the disk is down", p.Commit(), api.OK)
	standing(t, loaded(t, d.Image()), 40, 1)
}

func TestCommitWritesTheLogAlone(t *testing.T) {
	d, p := made(t, 200, 100, 8)
	before := d.Image()
	alloc(t, p, 2, 1, api.OK)
	alloc(t, p, 3, 2, api.OK)
	is(t, "Write", p.Write(2, 4, "two"), api.OK)
	is(t, "SetRoot", p.SetRoot(2, 9), api.OK)
	is(t, "Commit", p.Commit(), api.OK)
	if p.Dirty() != 0 || d.Pending() != 0 {
		t.Errorf("Dirty %d, Pending %d", p.Dirty(), d.Pending())
	}
	one := []string{packed(t, 1, 0, headRoom(3, 0, 0, 0, 9)), packed(t, 2, 1, ""), packed(t, 4, 2, "two")}
	standing(t, d, 100, 1, one)
	is(t, "Free", p.Free(1), api.OK)
	is(t, "Commit", p.Commit(), api.OK)
	two := []string{packed(t, 1, 0, headRoom(3, 1, 0, 0, 9)), packed(t, 255, 1, freeRoom(0))}
	standing(t, d, 100, 1, one, two)
	is(t, "Write", p.Write(2, 5, "2"), api.OK)
	is(t, "Commit", p.Commit(), api.OK)
	standing(t, d, 100, 1, one, two, []string{packed(t, 5, 2, "2")})
	if got := d.Image(); got[:128] != before[:128] || got[64*102:] != before[64*102:] {
		t.Error("a Commit writes beside the log")
	}
}

func TestCommitOfTooMuch(t *testing.T) {
	for _, x := range []struct {
		pages int
		want  api.Errno
	}{{63, api.OK}, {64, api.ErrBig}, {65, api.ErrBig}, {90, api.ErrBig}} {
		d, p := made(t, 2000, 1000, 100)
		for no := 1; no <= x.pages; no++ {
			alloc(t, p, 2, no, api.OK)
		}
		if p.Dirty() != x.pages+1 {
			t.Fatalf("Dirty = %d", p.Dirty())
		}
		unchanged(t, d, p, func() {
			if x.want != api.OK {
				is(t, "Commit", p.Commit(), x.want)
				is(t, "Checkpoint", p.Checkpoint(), api.ErrState)
			}
		})
		if x.want != api.OK {
			p.Abort()
			alloc(t, p, 2, 1, api.OK)
		}
		is(t, "Commit", p.Commit(), api.OK)
		want := map[bool]int{true: x.pages + 1, false: 2}[x.want == api.OK]
		if got := opened(t, d, 2).Pages(); got != want || p.Pages() != want {
			t.Errorf("Pages = %d, %d, not %d", got, p.Pages(), want)
		}
	}
}

func TestCommitOfWhatDoesNotFitIntoTheLog(t *testing.T) {
	for log := 10; log <= 60; log++ {
		d, p := made(t, 200, log, 64)
		// Something stands in the log, which a Checkpoint would take away.
		is(t, "SetRoot", p.SetRoot(0, 7), api.OK)
		is(t, "Commit", p.Commit(), api.OK)
		n := 0
		for 1+9*(n+1) <= log {
			n++
			alloc(t, p, 2, n, api.OK)
		}
		// With the page 0 that is one page too many.
		unchanged(t, d, p, func() {
			is(t, "Commit", p.Commit(), api.ErrLog)
			is(t, "Checkpoint", p.Checkpoint(), api.ErrState)
			is(t, "Commit", p.Commit(), api.ErrLog)
		})
		if p.Dirty() != n+1 {
			t.Fatalf("Dirty = %d, not %d", p.Dirty(), n+1)
		}
		standing(t, d, log, 1, []string{packed(t, 1, 0, headRoom(1, 0, 7))})
		// It goes on, and may be ended.
		is(t, "Write", p.Write(n, 3, "x"), api.OK)
		reads(t, p, n, 3, "x")
		p.Abort()
		if p.Pages() != 1 || p.Dirty() != 0 {
			t.Fatalf("Pages %d, Dirty %d", p.Pages(), p.Dirty())
		}
		is(t, "SetRoot", p.SetRoot(0, 8), api.OK)
		is(t, "Commit", p.Commit(), api.OK)
		root(t, opened(t, d, 2), 0, 8, api.OK)
	}
}

func TestCommitEmptiesTheLog(t *testing.T) {
	const log = 28
	d, p := made(t, 100, log, 8)
	alloc(t, p, 2, 1, api.OK)
	is(t, "Commit", p.Commit(), api.OK)
	is(t, "Write", p.Write(1, 3, "two"), api.OK)
	// Nine sectors are left, and ten are asked for: the log is emptied.
	image := d.Image()
	is(t, "Commit", p.Commit(), api.OK)
	at(t, d, 0, markOf(2, 2, log))
	at(t, d, 1, markOf(1, 1, log))
	at(t, d, placeOf(log, 0), packed(t, 1, 0, headRoom(2, 0))+packed(t, 2, 1, ""))
	standing(t, d, log, 2, []string{packed(t, 3, 1, "two")})
	if got := d.Image(); got[64*placeOf(log, 2):] != image[64*placeOf(log, 2):] || d.Pending() != 0 {
		t.Error("other pages were written")
	}
	reads(t, p, 1, 3, "two")
	reads(t, opened(t, d, 2), 1, 3, "two")
	// Eighteen are left: that fits, and the mark stays.
	is(t, "Write", p.Write(1, 4, "three"), api.OK)
	is(t, "Commit", p.Commit(), api.OK)
	at(t, d, 0, markOf(2, 2, log)+markOf(1, 1, log))
	standing(t, d, log, 2, []string{packed(t, 3, 1, "two")}, []string{packed(t, 4, 1, "three")})
	// Eight are left: the next mark takes the elder one's place.
	is(t, "SetRoot", p.SetRoot(1, 5), api.OK)
	is(t, "Commit", p.Commit(), api.OK)
	at(t, d, 0, markOf(2, 2, log)+markOf(3, 4, log))
	at(t, d, placeOf(log, 0), packed(t, 1, 0, headRoom(2, 0))+packed(t, 4, 1, "three"))
	standing(t, d, log, 4, []string{packed(t, 1, 0, headRoom(2, 0, 0, 5))})
	if p.Dirty() != 0 {
		t.Errorf("Dirty = %d", p.Dirty())
	}
	root(t, opened(t, d, 2), 1, 5, api.OK)
}

func TestAbort(t *testing.T) {
	d, p := made(t, 300, 200, 64)
	p.Abort()
	for no := 1; no <= 4; no++ {
		alloc(t, p, 2, no, api.OK)
	}
	is(t, "Free", p.Free(3), api.OK)
	is(t, "SetRoot", p.SetRoot(5, 6), api.OK)
	is(t, "Commit", p.Commit(), api.OK)
	for round := range 3 {
		told, image := tale(t, p), d.Image()
		alloc(t, p, 5, 3, api.OK)
		alloc(t, p, 5, 5, api.OK)
		is(t, "Free", p.Free(1), api.OK)
		is(t, "Write", p.Write(2, 6, "lost"), api.OK)
		is(t, "Write", p.Write(5, 6, "lost"), api.OK)
		is(t, "SetRoot", p.SetRoot(5, 7), api.OK)
		if p.Dirty() != 5 {
			t.Fatalf("Dirty = %d", p.Dirty())
		}
		is(t, "Checkpoint", p.Checkpoint(), api.ErrState)
		p.Abort()
		if tale(t, p) != told || p.Dirty() != 0 || d.Image() != image || d.Pending() != 0 {
			t.Fatalf("round %d: an Abort leaves something", round)
		}
		p.Abort()
		unread(t, p, 5, api.ErrArg)
		is(t, "Free", p.Free(3), api.ErrNone)
		if round == 1 {
			is(t, "Checkpoint", p.Checkpoint(), api.OK)
			if tale(t, p) != told {
				t.Error("a Checkpoint changes what counts")
			}
		}
	}
}

func TestDirty(t *testing.T) {
	_, p := made(t, 300, 200, 64)
	want := func(n int) {
		t.Helper()
		if p.Dirty() != n {
			t.Fatalf("Dirty = %d, not %d", p.Dirty(), n)
		}
	}
	want(0)
	alloc(t, p, 2, 1, api.OK)
	want(2)
	alloc(t, p, 2, 2, api.OK)
	want(3)
	is(t, "Commit", p.Commit(), api.OK)
	want(0)
	reads(t, p, 1, 2, "")
	root(t, p, 0, 0, api.OK)
	want(0)
	is(t, "Write", p.Write(1, 2, ""), api.OK)
	want(1)
	is(t, "Write", p.Write(1, 3, "x"), api.OK)
	want(1)
	is(t, "Free", p.Free(2), api.OK)
	want(3)
	is(t, "Commit", p.Commit(), api.OK)
	want(0)
	is(t, "SetRoot", p.SetRoot(0, 1), api.OK)
	want(1)
	p.Abort()
	want(0)
}

// Behind ErrDown.

func TestBehindADisksError(t *testing.T) {
	for name, call := range map[string]func(p *pager.Pager) api.Errno{
		"Commit": func(p *pager.Pager) api.Errno {
			is(t, "Write", p.Write(1, 3, "x"), api.OK)
			return p.Commit()
		},
		"Checkpoint": func(p *pager.Pager) api.Errno { return p.Checkpoint() },
	} {
		for fuse := 0; ; fuse++ {
			d, p := made(t, 100, 40, 8)
			alloc(t, p, 2, 1, api.OK)
			is(t, "Commit", p.Commit(), api.OK)
			d.Fuse(fuse)
			e := call(p)
			if e == api.OK {
				break
			}
			is(t, name, e, api.ErrDown)
			for range 2 {
				is(t, "Commit", p.Commit(), api.ErrState)
				is(t, "Checkpoint", p.Checkpoint(), api.ErrState)
				p.Abort()
				is(t, "Commit of nothing", p.Commit(), api.ErrState)
				d.Crash(nil, -1, 0)
				is(t, "SetRoot", p.SetRoot(0, 1), api.OK)
			}
			opened(t, d, 2)
		}
	}
}

func TestCommitWhileTheDiskIsDown(t *testing.T) {
	d, p := made(t, 100, 40, 64)
	for no := 1; no <= 4; no++ {
		alloc(t, p, 2, no, api.OK)
	}
	goesDown(t, d)
	// That it can't fit is told first, and is no end.
	is(t, "Commit", p.Commit(), api.ErrLog)
	d.Crash(nil, -1, 0)
	p.Abort()
	alloc(t, p, 2, 1, api.OK)
	goesDown(t, d)
	is(t, "Commit", p.Commit(), api.ErrDown)
	is(t, "Commit", p.Commit(), api.ErrState)
}

// Promise 11.6: Checkpoint.

func TestTheExample(t *testing.T) {
	d, p := made(t, 100, 20, 2)
	if p.Most() != 9 || p.Pages() != 1 {
		t.Fatalf("Most %d, Pages %d", p.Most(), p.Pages())
	}
	alloc(t, p, 2, 1, api.OK)
	is(t, "Commit", p.Commit(), api.OK)
	is(t, "Checkpoint", p.Checkpoint(), api.OK)
	if p.Pages() != 2 || opened(t, d, 2).Pages() != 2 {
		t.Errorf("Pages = %d", p.Pages())
	}
}

func TestCheckpointWritesTheseBytes(t *testing.T) {
	const log = 100
	d, p := made(t, 200, log, 8)
	for no := 1; no <= 3; no++ {
		alloc(t, p, 2, no, api.OK)
		is(t, "Commit", p.Commit(), api.OK)
	}
	is(t, "Write", p.Write(2, 7, "two"), api.OK)
	is(t, "Commit", p.Commit(), api.OK)
	want := d.Image()
	is(t, "Checkpoint", p.Checkpoint(), api.OK)
	want = over(want, 0, markOf(2, 5, log))
	want = over(want, placeOf(log, 0), packed(t, 1, 0, headRoom(4, 0))+packed(t, 2, 1, "")+packed(t, 7, 2, "two")+packed(t, 2, 3, ""))
	if d.Image() != want || d.Pending() != 0 {
		t.Fatal("a Checkpoint writes other bytes")
	}
	// With an empty log there is a mark more, and nothing else.
	for i, mark := range []string{markOf(3, 5, log), markOf(4, 5, log), markOf(5, 5, log)} {
		is(t, "Checkpoint", p.Checkpoint(), api.OK)
		want = over(want, 1-i%2, mark)
		if d.Image() != want {
			t.Fatal("a Checkpoint of an empty log writes other bytes")
		}
	}
	// The log begins anew, over what stood there; just what it has is written.
	is(t, "Write", p.Write(3, 8, "three"), api.OK)
	is(t, "Commit", p.Commit(), api.OK)
	standing(t, d, log, 5, []string{packed(t, 8, 3, "three")})
	_, txns, e := redo.Open(d, 2, log, 5)
	if e != api.OK || len(txns) != 1 || txns[0].Seq != 5 {
		t.Fatalf("%d transactions", len(txns))
	}
	is(t, "Checkpoint", p.Checkpoint(), api.OK)
	at(t, d, 0, markOf(6, 6, log)+markOf(5, 5, log))
	at(t, d, placeOf(log, 3), packed(t, 8, 3, "three"))
	// It goes on where another pager is opened.
	p = opened(t, d, 2)
	is(t, "SetRoot", p.SetRoot(0, 1), api.OK)
	is(t, "Commit", p.Commit(), api.OK)
	p = opened(t, d, 2)
	is(t, "Checkpoint", p.Checkpoint(), api.OK)
	at(t, d, 0, markOf(6, 6, log)+markOf(7, 7, log))
	at(t, d, placeOf(log, 0), packed(t, 1, 0, headRoom(4, 0, 1)))
}

func TestCheckpointWritesByRisingNumbers(t *testing.T) {
	const log, pages = 200, 12
	for calls := range 8*pages + 3 {
		d, p := made(t, 400, log, 64)
		for no := 1; no < pages; no++ {
			alloc(t, p, 2, no, api.OK)
			// A mixed order of transactions, and of pages in them.
			is(t, "Write", p.Write(1+no*5%7%no, 3, "x"), api.OK)
		}
		is(t, "Commit", p.Commit(), api.OK)
		before := d.Image()
		d.Fuse(calls)
		is(t, "Checkpoint", p.Checkpoint(), api.ErrDown)
		writes := min(calls, 8*pages)
		switch {
		case calls == 8*pages+1:
			writes = 0
		case calls == 8*pages+2:
			writes = 1
		}
		if d.Pending() != writes {
			t.Fatalf("behind %d calls %d writes aren't sure", calls, d.Pending())
		}
		d.Crash(slices.Repeat([]bool{true}, writes), -1, 0)
		// What comes first is there, and nothing of the rest.
		var all strings.Builder
		for no := range pages {
			kind, room, e := opened(t, d, 2).Read(no)
			is(t, "Read", e, api.OK)
			all.WriteString(packed(t, kind, no, room))
		}
		want := over(before, placeOf(log, 0), all.String()[:64*min(calls, 8*pages)])
		if calls == 8*pages+2 {
			want = over(want, 0, markOf(2, 2, log))
		}
		if d.Image() != want {
			t.Fatalf("other bytes behind %d calls", calls)
		}
	}
}

func TestCheckpointWritesAPageOnce(t *testing.T) {
	d, p := made(t, 200, 100, 8)
	alloc(t, p, 2, 1, api.OK)
	is(t, "Commit", p.Commit(), api.OK)
	is(t, "Checkpoint", p.Checkpoint(), api.OK)
	// None counts by the log now: a flush, the mark and a flush are enough.
	d.Fuse(3)
	is(t, "Checkpoint", p.Checkpoint(), api.OK)
	d.Fuse(-1)
	is(t, "Write", p.Write(1, 3, "x"), api.OK)
	is(t, "Commit", p.Commit(), api.OK)
	d.Fuse(8 + 3)
	is(t, "Checkpoint", p.Checkpoint(), api.OK)
}

func TestCheckpointIsRefused(t *testing.T) {
	d, p := made(t, 100, 40, 8)
	alloc(t, p, 2, 1, api.OK)
	unchanged(t, d, p, func() { is(t, "Checkpoint", p.Checkpoint(), api.ErrState) })
	is(t, "Commit", p.Commit(), api.OK)
	is(t, "Write", p.Write(1, 2, ""), api.OK)
	is(t, "Checkpoint of a page that is as it was", p.Checkpoint(), api.ErrState)
	p.Abort()
	is(t, "Checkpoint", p.Checkpoint(), api.OK)
	goesDown(t, d)
	is(t, "Checkpoint", p.Checkpoint(), api.ErrDown)
	is(t, "Checkpoint", p.Checkpoint(), api.ErrState)
}
