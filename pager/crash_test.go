package pager_test

import (
	"math"
	"slices"
	"strings"
	"testing"
	"unsafe"

	"croft/api"
	"croft/disk"
	"croft/pager"
	"croft/redo"
)

// stir answers n bytes that follow from the seed alone, with no pattern in them.
func stir(seed uint64, n int) []byte {
	out := make([]byte, n)
	for i := range out {
		seed = seed*6364136223846793005 + 1442695040888963407
		out[i] = byte(seed >> 56)
	}
	return out
}

// leaf is a page of a model.
type leaf struct {
	kind int
	room string
}

// model is pages without a disk.
type model struct {
	most, free int
	roots      []uint64
	pages      []leaf // the page 0 too, though it is told by all else
	dirty      map[int]bool
}

// fresh is the model of a disk behind a Format.
func fresh(most int) *model {
	m := &model{most: most, roots: make([]uint64, 8), pages: []leaf{{}}, dirty: map[int]bool{}}
	m.settle()
	return m
}

// copied answers another one, alike, of which nothing is dirty.
func (m *model) copied() *model {
	return &model{m.most, m.free, slices.Clone(m.roots), slices.Clone(m.pages), map[int]bool{}}
}

// settle makes the page 0 tell all else.
func (m *model) settle() { m.pages[0] = leaf{1, headRoom(len(m.pages), m.free, m.roots...)} }

// more is how many pages would be dirty, if these are as well.
func (m *model) more(nos ...int) int {
	n := len(m.dirty)
	for _, no := range nos {
		if !m.dirty[no] {
			n++
		}
	}
	return n
}

// put makes pages dirty, of which the page 0 may be one.
func (m *model) put(nos ...int) {
	for _, no := range nos {
		m.dirty[no] = true
	}
	m.settle()
}

// alloc answers as Alloc does on a pager with room for so many pages.
func (m *model) alloc(kind, room int) (int, api.Errno) {
	no, next := m.free, 0
	switch {
	case no > 0:
		for i := range 4 {
			next += int(m.pages[no].room[i]) << (8 * i)
		}
	case len(m.pages) == m.most:
		return 0, api.ErrFull
	default:
		no = len(m.pages)
	}
	if m.more(0, no) > room {
		return 0, api.ErrBig
	}
	if no == len(m.pages) {
		m.pages = append(m.pages, leaf{})
	}
	m.free = next
	m.pages[no] = leaf{kind, padded("")}
	m.put(0, no)
	return no, api.OK
}

// release answers as Free does.
func (m *model) release(no, room int) api.Errno {
	switch {
	case no < 1 || no >= len(m.pages):
		return api.ErrArg
	case m.pages[no].kind == 255:
		return api.ErrNone
	case m.more(0, no) > room:
		return api.ErrBig
	}
	m.pages[no] = leaf{255, freeRoom(m.free)}
	m.free = no
	m.put(0, no)
	return api.OK
}

// write answers as Write does.
func (m *model) write(no, kind int, s string, room int) api.Errno {
	switch {
	case no < 1 || no >= len(m.pages):
		return api.ErrArg
	case m.more(no) > room:
		return api.ErrBig
	}
	m.pages[no] = leaf{kind, padded(s)}
	m.put(no)
	return api.OK
}

// setRoot answers as SetRoot does.
func (m *model) setRoot(i int, n uint64, room int) api.Errno {
	if m.more(0) > room {
		return api.ErrBig
	}
	m.roots[i] = n
	m.put(0)
	return api.OK
}

// tale is what a pager tells of these pages.
func (m *model) tale() string {
	var out strings.Builder
	for _, p := range m.pages {
		out.WriteString(string([]byte{byte(p.kind)}) + p.room)
	}
	return out.String()
}

// player makes mixed calls of a pager and of a model, and holds them against
// each other.
type player struct {
	t         *testing.T
	d         *disk.Disk
	p         *pager.Pager
	log, room int
	sure, now *model // behind the last Commit, and what is under way
	met       map[string]int
}

// playing answers a player on a new disk.
func playing(t *testing.T, sectors, log, room int) *player {
	t.Helper()
	d, p := made(t, sectors, log, room)
	m := fresh((sectors - 2 - log) / 8)
	return &player{t, d, p, log, room, m, m.copied(), map[string]int{}}
}

// holds fails the test unless the pager tells what the model does.
func (x *player) holds() {
	x.t.Helper()
	if x.p.Pages() != len(x.now.pages) || x.p.Most() != x.now.most || x.p.Dirty() != len(x.now.dirty) {
		x.t.Fatalf("Pages %d, Most %d, Dirty %d, not %d, %d, %d", x.p.Pages(), x.p.Most(), x.p.Dirty(), len(x.now.pages), x.now.most, len(x.now.dirty))
	}
	if tale(x.t, x.p) != x.now.tale() {
		x.t.Fatal("the pages are others than those of the model")
	}
	for i, n := range x.now.roots {
		root(x.t, x.p, i, n, api.OK)
	}
}

// abort ends what is under way.
func (x *player) abort() {
	x.p.Abort()
	x.now = x.sure.copied()
}

// same fails the test unless both answer alike; behind an ErrBig that may have
// changed a part, what is under way is ended.
func (x *player) same(call string, e, want api.Errno, part bool) {
	x.t.Helper()
	is(x.t, call, e, want)
	if e != api.OK {
		x.met[call+" refused"]++
	}
	if e == api.ErrBig && part {
		x.abort()
	}
}

// change makes one change that four rolls tell.
func (x *player) change(rolls []byte) {
	x.t.Helper()
	no := int(rolls[1]) % (len(x.now.pages) + 1)
	kind := 2 + int(rolls[2])%253
	switch rolls[0] % 10 {
	case 0, 1, 2:
		n, e := x.p.Alloc(kind)
		want, wantE := x.now.alloc(kind, x.room)
		if n != want {
			x.t.Fatalf("Alloc = %d, not %d", n, want)
		}
		x.same("Alloc", e, wantE, true)
	case 3, 4:
		x.same("Free", x.p.Free(no), x.now.release(no, x.room), true)
	case 5:
		i, n := int(rolls[1]%8), uint64(rolls[2])<<56+uint64(rolls[3])
		x.same("SetRoot", x.p.SetRoot(i, n), x.now.setRoot(i, n, x.room), false)
	default:
		if 1 <= no && no < len(x.now.pages) && x.now.pages[no].kind == 255 {
			// A free page that is written on would be found by an Alloc.
			return
		}
		s := string(stir(uint64(rolls[3])<<8+uint64(rolls[2]), int(rolls[3])*2%497))
		x.same("Write", x.p.Write(no, kind, s), x.now.write(no, kind, s, x.room), false)
	}
}

// fits tells whether what is under way fits into an empty log.
func (x *player) fits() bool { return 1+9*len(x.now.dirty) <= x.log }

// commit commits; false, if the power went.
func (x *player) commit() bool {
	x.t.Helper()
	e := x.p.Commit()
	switch {
	case len(x.now.dirty) > 0 && !x.fits():
		is(x.t, "Commit", e, api.ErrLog)
		x.met["ErrLog"]++
		x.holds()
		x.abort()
	case e == api.ErrDown:
		return false
	default:
		is(x.t, "Commit", e, api.OK)
		x.sure = x.now.copied()
		x.now = x.sure.copied()
	}
	return true
}

// checkpoint does a Checkpoint; false, if the power went.
func (x *player) checkpoint() bool {
	x.t.Helper()
	e := x.p.Checkpoint()
	switch {
	case len(x.now.dirty) > 0:
		is(x.t, "Checkpoint", e, api.ErrState)
	case e == api.ErrDown:
		return false
	default:
		is(x.t, "Checkpoint", e, api.OK)
	}
	return true
}

// crash lets the power come again, whatever is kept, and opens what is there:
// what was committed, or what was under way in the Commit that was cut.
func (x *player) crash(seed uint64, committing bool) {
	x.t.Helper()
	is(x.t, "Commit", x.p.Commit(), api.ErrState)
	is(x.t, "Checkpoint", x.p.Checkpoint(), api.ErrState)
	rolls := stir(seed, x.d.Pending()+3)
	keep := make([]bool, len(rolls)-3)
	for i := range keep {
		keep[i] = rolls[0]%4 != 0 && (rolls[0]%4 == 1 || rolls[i+3]%2 == 0)
	}
	x.d.Crash(keep, int(rolls[1])%(len(keep)+2), int(rolls[2])%65)
	x.p = opened(x.t, x.d, x.room)
	got := tale(x.t, x.p)
	switch {
	case got == x.sure.tale():
		x.met["gone"]++
	case committing && got == x.now.tale():
		x.met["there"]++
		x.sure = x.now.copied()
	default:
		x.t.Fatalf("seed %d: what is there is neither the one nor the other", seed)
	}
	x.now = x.sure.copied()
	x.holds()
	x.p = opened(x.t, x.d, x.room)
	x.holds()
}

// play makes as many mixed calls; the power goes, if fuses is above 0, behind
// fewer calls of the disk than that.
func (x *player) play(seed uint64, steps, fuses int) {
	x.t.Helper()
	rolls := stir(seed, 6*steps)
	for i := 0; i < len(rolls); i += 6 {
		r := rolls[i : i+6]
		if fuses > 0 && r[5]%4 == 0 {
			x.d.Fuse(int(r[4]) % fuses)
		}
		ok, committing := true, false
		if fuses > 0 && r[5]%8 == 1 {
			// Within the last calls of a Commit.
			x.d.Fuse(max(0, 9*len(x.now.dirty)+2-int(r[4])%3))
		}
		switch r[0] % 32 {
		case 0, 1, 2, 3, 4, 5, 6, 7:
			ok, committing = x.commit(), true
		case 8:
			x.abort()
		case 9, 10:
			ok = x.checkpoint()
		case 11:
			x.p = opened(x.t, x.d, x.room)
			x.now = x.sure.copied()
		default:
			x.change(r[1:])
		}
		if !ok {
			x.crash(seed<<16+uint64(i), committing)
			continue
		}
		x.holds()
	}
}

func TestMixedCalls(t *testing.T) {
	met := map[string]int{}
	for seed := range uint64(60) {
		log := []int{10, 19, 28, 40, 64, 150}[seed%6]
		room := []int{2, 3, 5, 8, 100}[seed%5]
		x := playing(t, log+2+8*(2+int(seed%11)), log, room)
		x.play(seed, 300, 0)
		for call, n := range x.met {
			met[call] += n
		}
	}
	for _, call := range []string{"Alloc refused", "Free refused", "Write refused", "SetRoot refused", "ErrLog"} {
		if met[call] < 4 {
			t.Errorf("%s: %d times", call, met[call])
		}
	}
}

// Promise 11.7: whatever the power does.

func TestMixedCallsAndCrashes(t *testing.T) {
	met := map[string]int{}
	for seed := range uint64(150) {
		log := []int{10, 19, 28, 40, 64, 150}[seed%6]
		room := []int{2, 3, 5, 8, 100}[seed%5]
		x := playing(t, log+2+8*(2+int(seed%11)), log, room)
		x.play(seed+1000, 300, []int{20, 50, 100, 200}[seed%4])
		for call, n := range x.met {
			met[call] += n
		}
	}
	if met["gone"] < 1000 || met["there"] < 40 {
		t.Errorf("the power went %d times with what was under way, %d times it stood", met["gone"], met["there"])
	}
}

// script is what a crash is told.
type script struct {
	keep        []bool
	torn, bytes int
}

// scripts are crashes of a disk with so many writes that aren't sure.
func scripts(writes int) []script {
	none, all := make([]bool, writes), slices.Repeat([]bool{true}, writes)
	other := make([]bool, writes)
	out := []script{{none, -1, 0}, {all, -1, 0}}
	for i := range writes {
		other[i] = i%2 == 0
		one, rest, some := slices.Clone(none), slices.Clone(all), slices.Clone(none)
		one[i], rest[i] = true, false
		copy(some, all[:i])
		out = append(out, script{one, -1, 0}, script{rest, -1, 0}, script{some, -1, 0})
	}
	for i := range writes {
		for _, bytes := range []int{1, 7, 8, 9, 16, 20, 32, 55, 56, 57, 63} {
			for _, keep := range [][]bool{none, all, other} {
				out = append(out, script{keep, i, bytes})
			}
		}
	}
	return out
}

// story is what has been on a disk, and the call in which the power goes.
type story struct {
	name  string
	image string
	call  func(t *testing.T, p *pager.Pager) api.Errno
}

// committed makes changes, and commits them.
func committed(t *testing.T, p *pager.Pager) api.Errno {
	t.Helper()
	_, e := p.Alloc(9)
	is(t, "Alloc", e, api.OK)
	is(t, "Write", p.Write(1, 10, "committed"), api.OK)
	is(t, "SetRoot", p.SetRoot(3, 1<<40), api.OK)
	return p.Commit()
}

// written answers the image of a disk with pages 1 to n, each of a transaction
// of its own, of which those up to the page settled stand at their places.
func written(t *testing.T, log, n, settled int) string {
	t.Helper()
	d, p := made(t, 2+log+8*8, log, 8)
	for no := 1; no <= n; no++ {
		alloc(t, p, 1+no, no, api.OK)
		is(t, "Write", p.Write(no, 1+no, strings.Repeat("x", 100*no)), api.OK)
		is(t, "Commit", p.Commit(), api.OK)
		if no == settled {
			is(t, "Checkpoint", p.Checkpoint(), api.OK)
		}
	}
	return d.Image()
}

// nearlyMarks is a room that leaves in most sectors of the log what would be the
// mark of a transaction of one page, but for the byte that tells it.
func nearlyMarks(seq uint64) string {
	part := low(seq, 8) + low(1, 2) + noughts(45) + low(seq, 8)
	// A page begins with sixteen bytes ahead of its room.
	return strings.Repeat(part, 9)[16:][:496]
}

// littered answers the image of a disk with pages 1 to 3 at their places, and an
// empty log of the first number first; the sector at of the log is that one, and
// behind it stand two pages as if it were their mark.
func littered(t *testing.T, log int, first uint64, at int, sector string) string {
	t.Helper()
	elder := []string{packed(t, 1, 0, headRoom(2, 0)), packed(t, 7, 1, "elder")}
	d := blank(t, 19)
	l, _, e := redo.Open(d, 0, 19, 1)
	is(t, "Open of the log", e, api.OK)
	is(t, "Append", l.Append(elder), api.OK)
	image := over(written(t, log, 3, 3), 0, markOf(100, first, log))
	return over(image, 2+at, sector+d.Image()[64:])
}

// turned is the mark of a transaction of so many pages, of which one byte of the
// first number is another.
func turned(seq uint64, pages, at int) string {
	s := []byte(marked(seq, low(uint64(pages), 2)+"\x01"))
	s[at] ^= 0x55
	return string(s)
}

// litter are stories of Commits of three pages on disks on which crashes left
// what is nearly a transaction.
func litter(t *testing.T) []story {
	var out []story
	for _, first := range []uint64{2, 255, 256, 1 << 16, 1 << 56, math.MaxUint64, 0} {
		for _, at := range []int{0, 6, 7} {
			for pages := 1; pages <= 4; pages++ {
				// The transaction may take all of the log.
				log := []int{28, 120}[pages%2]
				image := littered(t, log, first, 0, turned(first, pages, at))
				out = append(out, story{"a mark over a torn one", image, committed})
			}
		}
		for _, pages := range []int{1, 2} {
			image := littered(t, 120, first, 28, marked(first+1, low(uint64(pages), 2)+"\x01"))
			out = append(out, story{"a transaction ahead of what is none", image, committed})
		}
	}
	return out
}

// stories are some, of Commits and Checkpoints.
func stories(t *testing.T) []story {
	checkpoint := func(_ *testing.T, p *pager.Pager) api.Errno { return p.Checkpoint() }
	both := func(t *testing.T, p *pager.Pager) api.Errno {
		if e := committed(t, p); e != api.OK {
			return e
		}
		return p.Checkpoint()
	}
	return []story{
		{"the second Commit", written(t, 60, 1, 0), committed},
		{"a Commit behind others", written(t, 120, 3, 0), committed},
		{"a Commit behind a Checkpoint", written(t, 60, 3, 2), committed},
		{"a Commit over elder transactions", written(t, 100, 3, 3), committed},
		{"a Commit that empties the log", written(t, 30, 1, 0), committed},
		{"a Commit that empties a log of more", written(t, 60, 3, 0), committed},
		{"a Commit that empties the log again", written(t, 40, 4, 2), committed},
		{"a Checkpoint", written(t, 100, 3, 0), checkpoint},
		{"a Checkpoint behind another", written(t, 100, 4, 2), checkpoint},
		{"a Checkpoint of nothing", written(t, 40, 2, 2), checkpoint},
		{"both", written(t, 60, 2, 1), both},
	}
}

// write is one of a sector.
type write struct {
	at int
	s  string
}

// batches are the writes of a story's call, up to each flush; one that writes
// what stands there already is left out, as no crash can make it tell.
func batches(t *testing.T, y story) [][]write {
	t.Helper()
	out := [][]write{nil}
	for calls, last := 0, y.image; ; calls++ {
		d := loaded(t, y.image)
		p := opened(t, d, 8)
		d.Fuse(calls)
		e := y.call(t, p)
		flushed := d.Pending() == 0
		d.Crash(slices.Repeat([]bool{true}, d.Pending()), -1, 0)
		now := d.Image()
		for at := range len(now) / 64 {
			if s := now[64*at : 64*at+64]; s != last[64*at:64*at+64] {
				out[len(out)-1] = append(out[len(out)-1], write{at, s})
			}
		}
		if e == api.OK {
			return out
		}
		is(t, y.name, e, api.ErrDown)
		if flushed {
			out = append(out, nil)
		}
		last = now
	}
}

// behind answers what a pager tells behind a crash; it fails the test unless it
// is the same twice.
func behind(t *testing.T, image string, writes []write, c script) string {
	t.Helper()
	d := loaded(t, image)
	for _, w := range writes {
		is(t, "Write", d.Write(w.at, w.s), api.OK)
	}
	d.Crash(c.keep, c.torn, c.bytes)
	told := tale(t, opened(t, d, 4))
	if tale(t, opened(t, d, 4)) != told {
		t.Fatal("it isn't the same twice")
	}
	return told
}

func TestThePowerGoesAtEachCall(t *testing.T) {
	for _, y := range slices.Concat(stories(t), litter(t)) {
		before := tale(t, opened(t, loaded(t, y.image), 4))
		d := loaded(t, y.image)
		p := opened(t, d, 8)
		is(t, y.name, y.call(t, p), api.OK)
		after := tale(t, p)
		if tale(t, opened(t, d, 4)) != after {
			t.Fatalf("%s: what is opened is another", y.name)
		}
		met := map[string]int{}
		sure := y.image
		for _, writes := range batches(t, y) {
			// A crash behind fewer writes is one that keeps none of the rest.
			for _, c := range scripts(len(writes)) {
				switch behind(t, sure, writes, c) {
				case before:
					met["before"]++
				case after:
					met["after"]++
				default:
					t.Fatalf("%s: neither what was nor what is to be", y.name)
				}
			}
			for _, w := range writes {
				sure = over(sure, w.at, w.s)
			}
		}
		if sure != d.Image() {
			t.Fatalf("%s: the writes are told wrongly", y.name)
		}
		if before != after && (met["before"] < 100 || met["after"] < 2) {
			t.Errorf("%s: %v", y.name, met)
		}
	}
}

// rewrites makes these pages nearly marks of a number, of that kind.
func rewrites(t *testing.T, p *pager.Pager, seq uint64, kind int, nos ...int) {
	t.Helper()
	for _, no := range nos {
		is(t, "Write", p.Write(no, kind, nearlyMarks(seq)), api.OK)
	}
}

// cutCommit lets the power go in a Commit behind so many calls of the disk, of
// which the last one leaves so many bytes of a sector; nothing else is kept that
// isn't sure.
func cutCommit(t *testing.T, d *disk.Disk, p *pager.Pager, calls, bytes int) *pager.Pager {
	t.Helper()
	d.Fuse(calls)
	is(t, "Commit", p.Commit(), api.ErrDown)
	d.Crash(nil, d.Pending()-1, bytes)
	return opened(t, d, 8)
}

func TestNothingIsFoundBehindTheLastTransaction(t *testing.T) {
	const last = 6
	d, p := made(t, 200, 60, 8)
	for no := 1; no <= 3; no++ {
		alloc(t, p, 2, no, api.OK)
	}
	rewrites(t, p, last, 3, 1, 2, 3)
	is(t, "Commit", p.Commit(), api.OK)
	is(t, "Checkpoint", p.Checkpoint(), api.OK)
	for kind := 4; kind <= 5; kind++ {
		rewrites(t, p, last, kind, 1)
		is(t, "Commit", p.Commit(), api.OK)
	}
	// The fourth transaction's mark is torn, over what the first one left.
	rewrites(t, p, last, 6, 1)
	p = cutCommit(t, d, p, 11, 56)
	at(t, d, 2+20, marked(4, low(1, 2)+"\x01")[:56]+low(last, 8))
	is(t, "Checkpoint", p.Checkpoint(), api.OK)
	// Then a page's sector is torn over it: it is a mark of one page, which stands
	// behind it.
	rewrites(t, p, last, 7, 1, 2, 3)
	p = cutCommit(t, d, p, 20, 8)
	at(t, d, 2+20, marked(last, low(1, 2)+"\x01"))
	for kind := 8; kind <= 9; kind++ {
		rewrites(t, p, last, kind, 1)
		is(t, "Commit", p.Commit(), api.OK)
		reads(t, opened(t, d, 2), 1, kind, nearlyMarks(last))
	}
}

func TestACommitWritesNoMoreThanItMust(t *testing.T) {
	// The pages' sectors, and the mark, each with a flush, where nothing that
	// stands in the log is nearly a transaction.
	for _, n := range []int{1, 2, 3} {
		d, p := made(t, 200, 100, 8)
		for no := 1; no <= 3; no++ {
			alloc(t, p, 2, no, api.OK)
		}
		is(t, "Commit", p.Commit(), api.OK)
		is(t, "Checkpoint", p.Checkpoint(), api.OK)
		for no := 1; no <= n; no++ {
			is(t, "Write", p.Write(no, 3, "x"), api.OK)
		}
		d.Fuse(9*n + 3)
		is(t, "Commit", p.Commit(), api.OK)
		is(t, "Flush", d.Flush(), api.ErrDown)
	}
}

func TestPagesAreNotTakenForTheLog(t *testing.T) {
	// The log is full behind the third transaction; the page 0 stands right behind
	// it, and its first sector ends with the next number.
	d, p := made(t, 60, 20, 8)
	alloc(t, p, 2, 1, api.OK)
	is(t, "SetRoot", p.SetRoot(4, 4), api.OK)
	is(t, "Commit", p.Commit(), api.OK)
	is(t, "Checkpoint", p.Checkpoint(), api.OK)
	for kind := 3; kind <= 4; kind++ {
		is(t, "Write", p.Write(1, kind, "x"), api.OK)
		is(t, "Commit", p.Commit(), api.OK)
	}
	at(t, d, placeOf(20, 0), packed(t, 1, 0, headRoom(2, 0, 0, 0, 0, 0, 4)))
	reads(t, opened(t, d, 2), 1, 4, "x")
}

func TestWhatWasCommittedStays(t *testing.T) {
	// The power goes later on, in calls that have nothing to do with it.
	for calls := range 60 {
		d, p := made(t, 200, 50, 8)
		alloc(t, p, 2, 1, api.OK)
		is(t, "Write", p.Write(1, 2, "stays"), api.OK)
		is(t, "Commit", p.Commit(), api.OK)
		d.Fuse(calls)
		for p.Checkpoint() == api.OK {
			alloc(t, p, 3, p.Pages(), api.OK)
			if p.Commit() != api.OK {
				break
			}
		}
		d.Crash(nil, 0, 17)
		reads(t, opened(t, d, 2), 1, 2, "stays")
	}
}

// The rules that hold everywhere: what is handed in and out.

func TestWhatIsHandedInIsNotKept(t *testing.T) {
	d, p := made(t, 100, 40, 8)
	alloc(t, p, 2, 1, api.OK)
	for _, n := range []int{496, 100, 1} {
		raw := stir(uint64(n), n)
		want := string(raw)
		is(t, "Write", p.Write(1, 2, unsafe.String(&raw[0], n)), api.OK)
		raw[0]++
		reads(t, p, 1, 2, want)
		is(t, "Commit", p.Commit(), api.OK)
		raw[n-1]++
		reads(t, p, 1, 2, want)
		reads(t, opened(t, d, 2), 1, 2, want)
	}
}

func TestAnswersShareNoMemory(t *testing.T) {
	d, p := made(t, 100, 60, 4)
	room := string(stir(1, 496))
	alloc(t, p, 2, 1, api.OK)
	is(t, "Write", p.Write(1, 2, room), api.OK)
	seen := map[*byte]bool{unsafe.StringData(room): true}
	look := func(p *pager.Pager) {
		for no := range 2 {
			for range 2 {
				_, s, e := p.Read(no)
				is(t, "Read", e, api.OK)
				if seen[unsafe.StringData(s)] {
					t.Error("an answer lies where another text does")
				}
				seen[unsafe.StringData(s)] = true
			}
		}
	}
	look(p)
	is(t, "Commit", p.Commit(), api.OK)
	look(p)
	look(opened(t, d, 4))
	is(t, "Checkpoint", p.Checkpoint(), api.OK)
	look(opened(t, d, 4))
	look(p)
}

func TestPagersStandApart(t *testing.T) {
	d, p := made(t, 100, 40, 4)
	e, q := made(t, 100, 40, 4)
	alloc(t, p, 2, 1, api.OK)
	is(t, "SetRoot", q.SetRoot(0, 5), api.OK)
	is(t, "Commit", p.Commit(), api.OK)
	q.Abort()
	if p.Pages() != 2 || q.Pages() != 1 {
		t.Errorf("Pages %d, %d", p.Pages(), q.Pages())
	}
	root(t, q, 0, 0, api.OK)
	goesDown(t, e)
	reads(t, p, 1, 2, "")
	is(t, "Checkpoint", p.Checkpoint(), api.OK)
	if opened(t, d, 2).Pages() != 2 {
		t.Error("the page 1 isn't there")
	}
}
