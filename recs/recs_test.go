package recs_test

import (
	"math"
	"slices"
	"strings"
	"testing"

	"croft/api"
	"croft/btree"
	"croft/disk"
	"croft/pager"
	"croft/recs"
	"croft/slot"
)

// stir answers n bytes that follow from the seed alone, with no pattern in them.
func stir(seed uint64, n int) []byte {
	out := make([]byte, n)
	for i := range out {
		seed = seed*6364136223846793005 + 1442695040888963407
		out[i] = byte(seed >> 56)
	}
	return out
}

// text is a record of n bytes.
func text(seed uint64, n int) string { return string(stir(seed, n)) }

// noughts are n bytes 00.
func noughts(n int) string { return strings.Repeat("\x00", n) }

// low are the lowest bytes of a number, told without the program.
func low(n uint64, size int) string {
	var out []byte
	for range size {
		out = append(out, byte(n%256))
		n /= 256
	}
	return string(out)
}

// number is what the first bytes tell, read without the program.
func number(s string, size int) uint64 {
	n := uint64(0)
	for i := range size {
		n = n*256 + uint64(s[size-1-i])
	}
	return n
}

// logSize is how many sectors the logs of the tests have.
const logSize = 800

// is fails the test unless a call's answer is the one that is wanted.
func is(t *testing.T, call string, e, want api.Errno) {
	t.Helper()
	if e != want {
		t.Fatalf("%s = %d, not %d", call, e, want)
	}
}

// made answers a new disk with room for so many pages, and a pager on it.
func made(t *testing.T, pages, room int) (*disk.Disk, *pager.Pager) {
	t.Helper()
	d, e := disk.New(2 + logSize + 8*pages)
	is(t, "New", e, api.OK)
	is(t, "Format", pager.Format(d, logSize), api.OK)
	return d, opened(t, d, room)
}

// opened answers a pager on a disk.
func opened(t *testing.T, d *disk.Disk, room int) *pager.Pager {
	t.Helper()
	p, e := pager.Open(d, room)
	is(t, "Open", e, api.OK)
	return p
}

// tale is all that a pager tells of its pages.
func tale(t *testing.T, p *pager.Pager) string {
	t.Helper()
	var out strings.Builder
	for no := range p.Pages() {
		kind, room, e := p.Read(no)
		is(t, "Read", e, api.OK)
		out.WriteString(string([]byte{byte(kind)}) + room)
	}
	return out.String()
}

// unchanged fails the test unless a call leaves all that a pager tells.
func unchanged(t *testing.T, p *pager.Pager, call func()) {
	t.Helper()
	told, dirty := tale(t, p), p.Dirty()
	call()
	if tale(t, p) != told || p.Dirty() != dirty {
		t.Fatal("something was changed")
	}
}

// makes fails the test unless a Make answers that number.
func makes(t *testing.T, p *pager.Pager, rec string, want uint64) {
	t.Helper()
	if id, e := recs.On(p).Make(rec); id != want || e != api.OK {
		t.Fatalf("Make of %d bytes = %d, %d, not %d", len(rec), id, e, want)
	}
}

// makesNot fails the test unless a Make answers that error and nothing else.
func makesNot(t *testing.T, p *pager.Pager, rec string, want api.Errno) {
	t.Helper()
	if id, e := recs.On(p).Make(rec); id != 0 || e != want {
		t.Fatalf("Make of %d bytes = %d, %d, not the error %d", len(rec), id, e, want)
	}
}

// gets fails the test unless a Get answers that record.
func gets(t *testing.T, p *pager.Pager, id uint64, want string) {
	t.Helper()
	if s, e := recs.On(p).Get(id); s != want || e != api.OK {
		t.Fatalf("Get(%d) = %d bytes, %d, not these %d", id, len(s), e, len(want))
	}
}

// getsNot fails the test unless a Get answers that error and nothing else.
func getsNot(t *testing.T, p *pager.Pager, id uint64, want api.Errno) {
	t.Helper()
	if s, e := recs.On(p).Get(id); s != "" || e != want {
		t.Fatalf("Get(%d) = %d bytes, %d, not the error %d", id, len(s), e, want)
	}
}

// sets fails the test unless a Set goes well.
func sets(t *testing.T, p *pager.Pager, id uint64, rec string) {
	t.Helper()
	if e := recs.On(p).Set(id, rec); e != api.OK {
		t.Fatalf("Set(%d) to %d bytes = %d", id, len(rec), e)
	}
}

// dels fails the test unless a Del goes well.
func dels(t *testing.T, p *pager.Pager, id uint64) {
	t.Helper()
	if e := recs.On(p).Del(id); e != api.OK {
		t.Fatalf("Del(%d) = %d", id, e)
	}
}

// refused fails the test unless Get, Set and Del of a number answer that error.
func refused(t *testing.T, p *pager.Pager, id uint64, want api.Errno) {
	t.Helper()
	getsNot(t, p, id, want)
	is(t, "Set", recs.On(p).Set(id, "x"), want)
	is(t, "Del", recs.On(p).Del(id), want)
}

// ids fails the test unless Ids answers these numbers.
func ids(t *testing.T, p *pager.Pager, want ...uint64) {
	t.Helper()
	if l, e := recs.On(p).Ids(); !slices.Equal(l, want) || e != api.OK {
		t.Fatalf("Ids = %v, %d, not %v", l, e, want)
	}
}

// idsNot fails the test unless Ids answers that error and nothing else.
func idsNot(t *testing.T, p *pager.Pager, want api.Errno) {
	t.Helper()
	if l, e := recs.On(p).Ids(); len(l) != 0 || e != want {
		t.Fatalf("Ids = %v, %d, not the error %d", l, e, want)
	}
}

// rooted fails the test unless a root is that number.
func rooted(t *testing.T, p *pager.Pager, root int, want uint64) {
	t.Helper()
	if n, e := p.Root(root); n != want || e != api.OK {
		t.Fatalf("Root(%d) = %d, %d, not %d", root, n, e, want)
	}
}

// The errors of the pager.

func TestNoPager(t *testing.T) {
	if recs.On(nil) != nil {
		t.Error("On of nil isn't nil")
	}
	for _, rec := range []string{"", "x", text(1, 4096), text(1, 4097)} {
		makesNot(t, nil, rec, api.ErrArg)
		is(t, "Set", recs.On(nil).Set(1, rec), api.ErrArg)
	}
	for _, id := range []uint64{0, 1, math.MaxUint64} {
		refused(t, nil, id, api.ErrArg)
	}
	idsNot(t, nil, api.ErrArg)
	is(t, "Sound", recs.On(nil).Sound(), api.ErrArg)
}

func TestThePowerIsGone(t *testing.T) {
	for _, n := range []uint64{0, 3, 40} {
		d, p := made(t, 300, 100)
		want := map[uint64]string{}
		for id := uint64(1); id <= n; id++ {
			want[id] = text(id, int(id*100))
			makes(t, p, want[id], id)
			is(t, "Commit", p.Commit(), api.OK)
		}
		d.Fuse(0)
		is(t, "Flush", d.Flush(), api.ErrDown)
		makesNot(t, p, "x", api.ErrDown)
		makesNot(t, p, text(1, 1000), api.ErrDown)
		for _, id := range []uint64{0, 1, 3, 41, math.MaxUint64} {
			refused(t, p, id, api.ErrDown)
		}
		idsNot(t, p, api.ErrDown)
		is(t, "Sound", recs.On(p).Sound(), api.ErrDown)
		// With the power, what was there is there.
		d.Crash(nil, -1, 0)
		holds(t, opened(t, d, 100), want)
	}
}

func TestPagesThatCannotBeRead(t *testing.T) {
	d, p := made(t, 100, 100)
	for id := uint64(1); id <= 3; id++ {
		makes(t, p, text(id, int(id-1)*400), id)
	}
	is(t, "Commit", p.Commit(), api.OK)
	is(t, "Checkpoint", p.Checkpoint(), api.OK)
	s := sound(t, p)
	spoilt := func(no int) *pager.Pager {
		image := []byte(d.Image())
		image[64*(2+logSize+8*no)+300] ^= 1
		worse, e := disk.Load(string(image))
		is(t, "Load", e, api.OK)
		p := opened(t, worse, 100)
		is(t, "Sound", recs.On(p).Sound(), api.ErrBad)
		return p
	}
	p = spoilt(s.directory[0])
	refused(t, p, 1, api.ErrSum)
	idsNot(t, p, api.ErrSum)
	makesNot(t, p, "x", api.ErrSum)
	p = spoilt(s.places[1].page)
	refused(t, p, 1, api.ErrSum)
	refused(t, p, 3, api.ErrSum)
	refused(t, p, 4, api.ErrNone)
	makesNot(t, p, "x", api.ErrSum)
	p.Abort()
	ids(t, p, 1, 2, 3)
	p = spoilt(s.own[3][1])
	refused(t, p, 3, api.ErrSum)
	gets(t, p, 1, "")
	gets(t, p, 2, text(2, 400))
	p.Abort()
	ids(t, p, 1, 2, 3)
}

// Promise 14.1: Make, Get, Set, Del, Ids.

func TestOfTheExample(t *testing.T) {
	_, p := made(t, 20, 20)
	makes(t, p, "ab", 1)
	makes(t, p, text(1, 1000), 2)
	if n := len(sound(t, p).own[2]); n != 3 {
		t.Errorf("1000 bytes stand on %d pages", n)
	}
	dels(t, p, 1)
	makes(t, p, "c", 3)
	holds(t, p, map[uint64]string{2: text(1, 1000), 3: "c"})
}

func TestTheBytesOfTheExample(t *testing.T) {
	_, p := made(t, 20, 20)
	makes(t, p, "ab", 1)
	long := text(1, 1000)
	makes(t, p, long, 2)
	rooted(t, p, 1, 2)
	at, e := p.Root(2)
	is(t, "Root", e, api.OK)
	l, e := btree.All(p, 0)
	if want := []btree.Pair{{Key: 1, Val: at << 16}, {Key: 2, Val: at<<16 + 1}}; !slices.Equal(l, want) || e != api.OK {
		t.Fatalf("the directory is %v, %d", l, e)
	}
	kind, room, e := p.Read(int(at))
	head := "\x02\x00" + "\x04\x00" + "\x0a\x00" + "\x00ab" + "\x01" + "\xe8\x03\x00\x00"
	if kind != 4 || !strings.HasPrefix(room, head) || room[len(head)+4:] != noughts(496-4-len(head)) || e != api.OK {
		t.Fatalf("the slot page is %d, %q, %d", kind, room, e)
	}
	no := number(room[len(head):], 4)
	for i, want := range []string{"\xea\x01" + long[:490], "\xea\x01" + long[490:980], "\x14\x00" + long[980:] + noughts(470)} {
		kind, room, e = p.Read(int(no))
		if kind != 5 || room[4:] != want || e != api.OK {
			t.Fatalf("the page %d of 1000 bytes is %d, %q, %d", i, kind, room, e)
		}
		no = number(room, 4)
	}
	if no != 0 {
		t.Errorf("behind the last page there is %d", no)
	}
}

// lengths are those at which a record stands in another way, and others.
var lengths = []int{0, 1, 2, 239, 240, 241, 242, 489, 490, 491, 979, 980, 981, 1470, 1471, 3919, 3920, 3921, 4095, 4096}

func TestEachLength(t *testing.T) {
	for _, n := range lengths {
		_, p := made(t, 30, 30)
		want := 0
		if n > 240 {
			want = (n + 489) / 490
		}
		// Bytes 00 at the end are the record's own.
		for id, rec := range []string{text(uint64(n), n), strings.Repeat("\xff", n), noughts(n)} {
			makes(t, p, rec, uint64(id+1))
			gets(t, p, uint64(id+1), rec)
			if own := sound(t, p).own[uint64(id+1)]; len(own) != want {
				t.Errorf("%d bytes stand on %d pages, not %d", n, len(own), want)
			}
			is(t, "Commit", p.Commit(), api.OK)
		}
		holds(t, p, map[uint64]string{1: text(uint64(n), n), 2: strings.Repeat("\xff", n), 3: noughts(n)})
	}
}

func TestSetOfEachLengthToEachOther(t *testing.T) {
	for _, n := range lengths {
		for _, m := range lengths {
			d, p := made(t, 30, 30)
			makes(t, p, "ahead", 1)
			makes(t, p, text(1, n), 2)
			makes(t, p, text(2, 300), 3)
			is(t, "Commit", p.Commit(), api.OK)
			sets(t, p, 2, text(3, m))
			want := map[uint64]string{1: "ahead", 2: text(3, m), 3: text(2, 300)}
			holds(t, p, want)
			is(t, "Commit", p.Commit(), api.OK)
			holds(t, opened(t, d, 5), want)
			dels(t, p, 2)
			delete(want, 2)
			holds(t, p, want)
		}
	}
}

func TestRecordsThatAreTooLong(t *testing.T) {
	_, p := made(t, 60, 60)
	makes(t, p, "x", 1)
	makes(t, p, text(1, 1000), 2)
	for range 2 {
		unchanged(t, p, func() {
			for _, n := range []int{4097, 4098, 5000, 65536, 65536 + 10, 1 << 20} {
				makesNot(t, p, text(1, n), api.ErrLarge)
				for _, id := range []uint64{0, 1, 2, 3, math.MaxUint64} {
					is(t, "Set", recs.On(p).Set(id, text(1, n)), api.ErrLarge)
				}
			}
		})
		is(t, "Commit", p.Commit(), api.OK)
	}
	makes(t, p, text(1, 4096), 3)
	sets(t, p, 1, text(2, 4096))
	holds(t, p, map[uint64]string{1: text(2, 4096), 2: text(1, 1000), 3: text(1, 4096)})
}

func TestNumbersOfNoRecord(t *testing.T) {
	_, p := made(t, 60, 60)
	wrong := []uint64{0, 2, 5, 6, 1 << 16, 1<<16 + 1, 1 << 32, 1<<32 + 1, 1 << 63, math.MaxUint64}
	for _, id := range append(wrong, 1, 3) {
		unchanged(t, p, func() { refused(t, p, id, api.ErrNone) })
	}
	for id := uint64(1); id <= 4; id++ {
		makes(t, p, text(id, int(id)*200), id)
	}
	dels(t, p, 2)
	want := map[uint64]string{1: text(1, 200), 3: text(3, 600), 4: text(4, 800)}
	for range 2 {
		for _, id := range wrong {
			unchanged(t, p, func() {
				refused(t, p, id, api.ErrNone)
				is(t, "Set", recs.On(p).Set(id, text(1, 4096)), api.ErrNone)
			})
		}
		holds(t, p, want)
		is(t, "Commit", p.Commit(), api.OK)
	}
}

func TestNumbersAreNotGivenAgain(t *testing.T) {
	d, p := made(t, 60, 60)
	makes(t, p, "a", 1)
	makes(t, p, "b", 2)
	dels(t, p, 2)
	makes(t, p, "c", 3)
	dels(t, p, 3)
	dels(t, p, 1)
	holds(t, p, map[uint64]string{})
	makes(t, p, text(1, 4000), 4)
	dels(t, p, 4)
	is(t, "Commit", p.Commit(), api.OK)
	rooted(t, p, 1, 4)
	is(t, "Checkpoint", p.Checkpoint(), api.OK)
	p = opened(t, d, 60)
	makes(t, p, "e", 5)
	// What the pager lets go was never given.
	p.Abort()
	ids(t, p)
	makes(t, p, "f", 5)
	sets(t, p, 5, "g")
	makes(t, p, "h", 6)
	holds(t, p, map[uint64]string{5: "g", 6: "h"})
}

func TestGreatNumbers(t *testing.T) {
	_, p := made(t, 60, 60)
	want := map[uint64]string{}
	for _, last := range []uint64{255, 65535, 1<<32 - 1, 1 << 48, 1<<63 - 1, math.MaxUint64 - 1} {
		is(t, "SetRoot", p.SetRoot(1, last), api.OK)
		want[last+1] = text(last, int(last%7*100))
		makes(t, p, want[last+1], last+1)
		rooted(t, p, 1, last+1)
		holds(t, p, want)
	}
	// Behind the greatest one there is none.
	is(t, "Commit", p.Commit(), api.OK)
	makesNot(t, p, "x", api.ErrBad)
	p.Abort()
	holds(t, p, want)
}

func TestMakeOverARecordThatIsThere(t *testing.T) {
	_, p := made(t, 60, 60)
	for id := uint64(1); id <= 3; id++ {
		makes(t, p, "x", id)
	}
	is(t, "Commit", p.Commit(), api.OK)
	for last := range uint64(3) {
		is(t, "SetRoot", p.SetRoot(1, last), api.OK)
		makesNot(t, p, "y", api.ErrBad)
		p.Abort()
	}
	holds(t, p, map[uint64]string{1: "x", 2: "x", 3: "x"})
}

// Promise 14.1: where they stand.

func TestRecordsFillAPage(t *testing.T) {
	// With what stands in front of it a record of 240 bytes takes 241, and 2 for
	// its slot: two of them leave 8.
	for _, c := range []struct {
		rec   string
		slots int // on the first page
	}{{"", 3}, {"12345", 3}, {"123456", 2}} {
		_, p := made(t, 60, 60)
		makes(t, p, text(1, 240), 1)
		makes(t, p, text(2, 240), 2)
		makes(t, p, c.rec, 3)
		if s := sound(t, p); len(s.shelves[s.places[1].page]) != c.slots {
			t.Errorf("%q: %d slots on the first page", c.rec, len(s.shelves[s.places[1].page]))
		}
	}
	// A long record takes 9 there, and 2 for its slot.
	for _, n := range []int{226, 227} {
		_, p := made(t, 90, 90)
		makes(t, p, text(1, 240), 1)
		makes(t, p, text(2, n), 2)
		makes(t, p, text(3, 241), 3)
		makes(t, p, text(4, 4096), 4)
		s := sound(t, p)
		rooted(t, p, 2, uint64(s.places[4].page))
		if s.places[3] != s.places[1].next(2) || (s.places[4] == s.places[1].next(3)) != (n == 226) {
			t.Errorf("long records stand at %v", s.places)
		}
	}
	// 164 records without bytes fill a page, 3 bytes each.
	_, p := made(t, 60, 60)
	for id := uint64(1); id <= 165; id++ {
		makes(t, p, "", id)
	}
	s := sound(t, p)
	if n := len(s.shelves[s.places[1].page]); n != 164 || len(s.shelves) != 2 {
		t.Errorf("%d records stand on a page", n)
	}
}

func TestPutWhereARecordWas(t *testing.T) {
	_, p := made(t, 60, 60)
	for id := uint64(1); id <= 5; id++ {
		makes(t, p, "abc", id)
	}
	dels(t, p, 2)
	dels(t, p, 4)
	s := sound(t, p)
	makes(t, p, "d", 6)
	makes(t, p, text(1, 500), 7)
	makes(t, p, "e", 8)
	now := sound(t, p)
	for id, want := range map[uint64]place{6: s.places[1].next(1), 7: s.places[1].next(3), 8: s.places[1].next(5)} {
		if now.places[id] != want {
			t.Errorf("the record %d stands at %v, not %v", id, now.places[id], want)
		}
	}
}

func TestTheFirstPagesAreNotPutTo(t *testing.T) {
	// Only the page of the root 2 is, however much goes onto others.
	_, p := made(t, 60, 60)
	for id := uint64(1); id <= 6; id++ {
		makes(t, p, text(id, 240), id)
	}
	s := sound(t, p)
	rooted(t, p, 2, uint64(s.places[5].page))
	dels(t, p, 1)
	dels(t, p, 3)
	makes(t, p, text(7, 240), 7)
	makes(t, p, "x", 8)
	now := sound(t, p)
	for _, id := range []uint64{7, 8} {
		if at := now.places[id].page; at == s.places[2].page || at == s.places[4].page {
			t.Errorf("the record %d stands on an elder page", id)
		}
	}
}

func TestPagesThatGo(t *testing.T) {
	_, p := made(t, 60, 60)
	for id := uint64(1); id <= 5; id++ {
		makes(t, p, text(id, 240), id)
	}
	s := sound(t, p)
	fill := uint64(s.places[5].page)
	rooted(t, p, 2, fill)
	dels(t, p, 1)
	if now := sound(t, p); len(now.shelves) != 3 {
		t.Errorf("there are %d slot pages", len(now.shelves))
	}
	dels(t, p, 2)
	now := sound(t, p)
	if len(now.shelves) != 2 || !slices.Contains(now.free, s.places[1].page) {
		t.Error("a page without records isn't free")
	}
	rooted(t, p, 2, fill)
	dels(t, p, 5)
	if now = sound(t, p); len(now.shelves) != 1 || !slices.Contains(now.free, int(fill)) {
		t.Error("the page of the root 2 isn't free")
	}
	rooted(t, p, 2, 0)
	makes(t, p, "x", 6)
	if at := sound(t, p).places[6].page; at == s.places[3].page {
		t.Error("a record stands on an elder page")
	}
	for _, id := range []uint64{3, 4, 6} {
		dels(t, p, id)
	}
	rooted(t, p, 2, 0)
	rooted(t, p, 0, 0)
	holds(t, p, map[uint64]string{})
}

func TestSetWhereARecordStands(t *testing.T) {
	// What goes into its slot stays there, whichever page is the root 2's.
	_, p := made(t, 60, 60)
	for id := uint64(1); id <= 4; id++ {
		makes(t, p, text(id, 100), id)
	}
	s := sound(t, p)
	for _, n := range []int{100, 0, 173, 240, 4096, 1, 174} {
		for _, fill := range []uint64{0, uint64(s.places[1].page)} {
			is(t, "SetRoot", p.SetRoot(2, fill), api.OK)
			sets(t, p, 2, text(9, n))
			gets(t, p, 2, text(9, n))
			// 496 less four slots and the three others leave 183 bytes.
			if stays := n <= 182 || n > 240; stays != (sound(t, p).places[2] == s.places[2]) {
				t.Errorf("%d bytes: the record stands at %v", n, sound(t, p).places[2])
			} else if stays {
				rooted(t, p, 2, fill)
			}
			p.Abort()
			for id := uint64(1); id <= 4; id++ {
				makes(t, p, text(id, 100), id)
			}
		}
	}
}

func TestSetOfARecordThatGoesElsewhere(t *testing.T) {
	_, p := made(t, 60, 60)
	for i, n := range []int{160, 160, 160, 100, 100} {
		makes(t, p, text(1, n), uint64(i+1))
	}
	s := sound(t, p)
	rooted(t, p, 2, uint64(s.places[5].page))
	// It goes onto the page of the root 2, and leaves its slot there empty.
	sets(t, p, 2, text(6, 240))
	now := sound(t, p)
	if now.places[2] != s.places[4].next(2) || !slices.Equal(now.shelves[s.places[1].page], []uint64{1, 0, 3}) {
		t.Errorf("the record stands at %v", now.places[2])
	}
	rooted(t, p, 2, uint64(s.places[5].page))
	// That one has no room for more: a new page is the root 2's.
	sets(t, p, 4, text(7, 240))
	now = sound(t, p)
	if now.places[4].slot != 0 || now.places[4].page == s.places[4].page || len(now.shelves) != 3 {
		t.Errorf("the record stands at %v", now.places[4])
	}
	rooted(t, p, 2, uint64(now.places[4].page))
	// There is room for another one where that was.
	sets(t, p, 5, text(8, 240))
	if now = sound(t, p); now.places[5] != s.places[5] {
		t.Errorf("the record stands at %v", now.places[5])
	}
	rooted(t, p, 2, uint64(now.places[4].page))
}

func TestSetOfARecordInALateSlot(t *testing.T) {
	late := func(left ...uint64) *pager.Pager {
		_, p := made(t, 60, 60)
		for id := uint64(1); id <= 164; id++ {
			makes(t, p, "", id)
		}
		for id := uint64(1); id <= 163; id++ {
			if !slices.Contains(left, id) {
				dels(t, p, id)
			}
		}
		is(t, "Commit", p.Commit(), api.OK)
		return p
	}
	// Alone on its page it doesn't go into its slot: the page goes, and another
	// one is the root 2's.
	p := late()
	sets(t, p, 164, text(1, 165))
	if s := sound(t, p); s.places[164].slot != 163 {
		t.Error("the record doesn't stand in its slot")
	}
	sets(t, p, 164, text(1, 166))
	s := sound(t, p)
	if s.places[164].slot != 0 || len(s.shelves) != 1 {
		t.Errorf("the record stands at %v", s.places[164])
	}
	rooted(t, p, 2, uint64(s.places[164].page))
	holds(t, p, map[uint64]string{164: text(1, 166)})
	// With another one it stays on its page, as the root 2 tells that one.
	p = late(7)
	before := sound(t, p)
	sets(t, p, 164, text(1, 240))
	s = sound(t, p)
	if s.places[164] != (place{before.places[164].page, 0}) || s.places[7] != before.places[7] {
		t.Errorf("the records stand at %v", s.places)
	}
	// Where the root 2 tells none, it goes to a new one.
	p = late(7)
	is(t, "SetRoot", p.SetRoot(2, 0), api.OK)
	sets(t, p, 164, text(1, 240))
	s = sound(t, p)
	if len(s.shelves) != 2 || s.places[164].slot != 0 {
		t.Errorf("the records stand at %v", s.places)
	}
	rooted(t, p, 2, uint64(s.places[164].page))
	// Where it tells another one, that stays.
	p = late()
	is(t, "SetRoot", p.SetRoot(2, 0), api.OK)
	makes(t, p, "x", 165)
	s = sound(t, p)
	sets(t, p, 164, text(1, 240))
	now := sound(t, p)
	if len(now.shelves) != 1 || now.places[164] != s.places[165].next(1) {
		t.Errorf("the records stand at %v", now.places)
	}
	rooted(t, p, 2, uint64(s.places[165].page))
}

// The disk is full, or too many pages are dirty.

func TestTheDiskIsFull(t *testing.T) {
	met := 0
	for pages := 1; pages <= 14; pages++ {
		_, p := made(t, pages, 30)
		want := map[uint64]string{}
		full := false
		for id := uint64(1); id <= 10 && !full; id++ {
			rec := text(id, int(id%3)*2000)
			n, e := recs.On(p).Make(rec)
			if full = e != api.OK; full {
				makesNot(t, p, rec, api.ErrFull)
				p.Abort()
				continue
			}
			if n != id {
				t.Fatalf("Make = %d, not %d", n, id)
			}
			want[id] = rec
			is(t, "Commit", p.Commit(), api.OK)
		}
		if !full {
			t.Fatalf("%d pages took all", pages)
		}
		holds(t, p, want)
		if _, there := want[1]; !there {
			continue
		}
		switch e := recs.On(p).Set(1, text(9, 4096)); e {
		case api.OK:
			want[1] = text(9, 4096)
		default:
			is(t, "Set", e, api.ErrFull)
			p.Abort()
			met++
		}
		holds(t, p, want)
	}
	if met < 3 {
		t.Errorf("Set was ErrFull %d times", met)
	}
}

func TestARecordTakesThePagesThatItHad(t *testing.T) {
	// The page 0, the directory, a slot page, and nine of its own.
	_, p := made(t, 12, 30)
	makes(t, p, text(1, 4096), 1)
	for i, n := range []int{4096, 3921, 500, 4000, 0, 4096} {
		sets(t, p, 1, text(uint64(i), n))
		holds(t, p, map[uint64]string{1: text(uint64(i), n)})
		is(t, "Commit", p.Commit(), api.OK)
	}
	makesNot(t, p, text(1, 241), api.ErrFull)
}

func TestTooManyPagesAreDirty(t *testing.T) {
	// However few pages may be dirty, a call answers ErrBig, or all of it is done.
	base := map[uint64]string{}
	for id := uint64(1); id <= 40; id++ {
		base[id] = text(id, int(id)*37)
	}
	for i, call := range []func(r *recs.Recs, want map[uint64]string) api.Errno{
		func(r *recs.Recs, want map[uint64]string) api.Errno {
			want[41] = text(41, 4096)
			_, e := r.Make(want[41])
			return e
		},
		func(r *recs.Recs, want map[uint64]string) api.Errno {
			want[41] = "short"
			_, e := r.Make(want[41])
			return e
		},
		func(r *recs.Recs, want map[uint64]string) api.Errno {
			want[40] = ""
			return r.Set(40, "")
		},
		func(r *recs.Recs, want map[uint64]string) api.Errno {
			want[2] = text(9, 4000)
			return r.Set(2, want[2])
		},
		func(r *recs.Recs, want map[uint64]string) api.Errno {
			delete(want, 40)
			return r.Del(40)
		},
	} {
		big := 0
		for room := 2; room <= 16; room++ {
			d, p := made(t, 200, 200)
			for id := uint64(1); id <= 40; id++ {
				makes(t, p, base[id], id)
				is(t, "Commit", p.Commit(), api.OK)
			}
			p = opened(t, d, room)
			want := copied(base)
			e := call(recs.On(p), want)
			if e != api.OK {
				is(t, "a call of too many pages", e, api.ErrBig)
				p.Abort()
				want = base
				big++
			}
			holds(t, p, want)
		}
		if big == 0 || big == 15 {
			t.Errorf("the call %d is ErrBig %d times of 15", i, big)
		}
	}
}

// The rules that hold everywhere.

func TestAnswersShareNoMemory(t *testing.T) {
	for _, n := range []uint64{1, 5, 40} {
		_, p := made(t, 100, 100)
		var want []uint64
		for id := uint64(1); id <= n; id++ {
			makes(t, p, "x", id)
			want = append(want, id)
		}
		a, _ := recs.On(p).Ids()
		b, _ := recs.On(p).Ids()
		// Spare room is no one else's, either.
		a = a[:cap(a)]
		for i := range a {
			a[i] = math.MaxUint64
		}
		if !slices.Equal(b, want) {
			t.Fatal("two answers share memory")
		}
		ids(t, p, want...)
	}
}

func TestRecsOfOnePagerAreTheSame(t *testing.T) {
	_, p := made(t, 100, 100)
	a, b := recs.On(p), recs.On(p)
	for i := range uint64(20) {
		id, e := a.Make(text(i, int(i)*50))
		is(t, "Make", e, api.OK)
		again, e := b.Get(id)
		if again != text(i, int(i)*50) || e != api.OK {
			t.Fatalf("Get(%d) = %d bytes, %d", id, len(again), e)
		}
		is(t, "Set", b.Set(id, text(i, int(i)*60)), api.OK)
		a, b = b, a
	}
	p.Abort()
	for _, r := range []*recs.Recs{a, b} {
		if l, e := r.Ids(); len(l) != 0 || e != api.OK {
			t.Errorf("Ids = %v, %d", l, e)
		}
	}
}

func TestSlotsTellWhatTheyShould(t *testing.T) {
	// The room is layer 12's, of what was made in that order.
	_, p := made(t, 60, 60)
	room := slot.Empty()
	for id, rec := range []string{"a", "", text(1, 240), "\x01\x00"} {
		makes(t, p, rec, uint64(id+1))
		want, _, e := slot.Add(room, "\x00"+rec)
		is(t, "Add", e, api.OK)
		room = want
	}
	at, e := p.Root(2)
	is(t, "Root", e, api.OK)
	if kind, is, e := p.Read(int(at)); kind != 4 || is != room || e != api.OK {
		t.Errorf("the slot page is %d, %q, %d", kind, is, e)
	}
}
