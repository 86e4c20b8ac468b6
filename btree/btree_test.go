package btree_test

import (
	"math"
	"slices"
	"strings"
	"testing"

	"croft/api"
	"croft/btree"
	"croft/disk"
	"croft/pager"
)

// stir answers n bytes that follow from the seed alone, with no pattern in them.
func stir(seed uint64, n int) []byte {
	out := make([]byte, n)
	for i := range out {
		seed = seed*6364136223846793005 + 1442695040888963407
		out[i] = byte(seed >> 56)
	}
	return out
}

// noughts are n bytes 00.
func noughts(n int) string { return strings.Repeat("\x00", n) }

// low are the lowest bytes of a number, told without the program.
func low(n uint64, size int) string {
	var out []byte
	for range size {
		out = append(out, byte(n%256))
		n /= 256
	}
	return string(out)
}

// number is what the first bytes tell, read without the program.
func number(s string, size int) uint64 {
	n := uint64(0)
	for i := range size {
		n = n*256 + uint64(s[size-1-i])
	}
	return n
}

// leafRoom is the room of a leaf, without bytes 00 behind.
func leafRoom(l ...btree.Pair) string {
	out := low(uint64(len(l)), 2)
	for _, x := range l {
		out += low(x.Key, 8) + low(x.Val, 8)
	}
	return out
}

// forkRoom is the room of a fork, without bytes 00 behind: below each key stands
// the page that it leads to.
func forkRoom(first int, l ...btree.Pair) string {
	out := low(uint64(len(l)), 2) + low(uint64(first), 4)
	for _, x := range l {
		out += low(x.Key, 8) + low(x.Val, 4)
	}
	return out
}

// pairs are n ones whose keys rise by step from a number on.
func pairs(from, step uint64, n int) []btree.Pair {
	var out []btree.Pair
	for range n {
		out = append(out, btree.Pair{Key: from, Val: from ^ 0xabcdef0123456789})
		from += step
	}
	return out
}

// is fails the test unless a call's answer is the one that is wanted.
func is(t *testing.T, call string, e, want api.Errno) {
	t.Helper()
	if e != want {
		t.Fatalf("%s = %d, not %d", call, e, want)
	}
}

// made answers a new disk with room for so many pages, and a pager on it.
func made(t *testing.T, pages, room int) (*disk.Disk, *pager.Pager) {
	t.Helper()
	const log = 800
	d, e := disk.New(2 + log + 8*pages)
	is(t, "New", e, api.OK)
	is(t, "Format", pager.Format(d, log), api.OK)
	return d, opened(t, d, room)
}

// opened answers a pager on a disk.
func opened(t *testing.T, d *disk.Disk, room int) *pager.Pager {
	t.Helper()
	p, e := pager.Open(d, room)
	is(t, "Open", e, api.OK)
	return p
}

// laid answers the number of a new page.
func laid(t *testing.T, p *pager.Pager, kind int, room string) int {
	t.Helper()
	no, e := p.Alloc(kind)
	is(t, "Alloc", e, api.OK)
	is(t, "Write", p.Write(no, kind, room), api.OK)
	return no
}

// leaf answers the number of a new leaf.
func leaf(t *testing.T, p *pager.Pager, l ...btree.Pair) int {
	t.Helper()
	return laid(t, p, 2, leafRoom(l...))
}

// fork answers the number of a new fork.
func fork(t *testing.T, p *pager.Pager, first int, l ...btree.Pair) int {
	t.Helper()
	return laid(t, p, 3, forkRoom(first, l...))
}

// hangs makes a page the topmost one of a root.
func hangs(t *testing.T, p *pager.Pager, root, no int) {
	t.Helper()
	is(t, "SetRoot", p.SetRoot(root, uint64(no)), api.OK)
}

// tale is all that a pager tells of its pages.
func tale(t *testing.T, p *pager.Pager) string {
	t.Helper()
	var out strings.Builder
	for no := range p.Pages() {
		kind, room, e := p.Read(no)
		is(t, "Read", e, api.OK)
		out.WriteString(string([]byte{byte(kind)}) + room)
	}
	return out.String()
}

// unchanged fails the test unless a call leaves all that a pager tells.
func unchanged(t *testing.T, p *pager.Pager, call func()) {
	t.Helper()
	told, dirty := tale(t, p), p.Dirty()
	call()
	if tale(t, p) != told || p.Dirty() != dirty {
		t.Fatal("something was changed")
	}
}

// gets fails the test unless a key leads there.
func gets(t *testing.T, p *pager.Pager, root int, x btree.Pair) {
	t.Helper()
	if v, e := btree.Get(p, root, x.Key); v != x.Val || e != api.OK {
		t.Fatalf("Get(%d) = %d, %d, not %d", x.Key, v, e, x.Val)
	}
}

// getsNot fails the test unless a Get answers that error and nothing else.
func getsNot(t *testing.T, p *pager.Pager, root int, key uint64, want api.Errno) {
	t.Helper()
	if v, e := btree.Get(p, root, key); v != 0 || e != want {
		t.Fatalf("Get(%d) = %d, %d, not the error %d", key, v, e, want)
	}
}

// puts fails the test unless a Put goes well.
func puts(t *testing.T, p *pager.Pager, root int, x btree.Pair) {
	t.Helper()
	if e := btree.Put(p, root, x.Key, x.Val); e != api.OK {
		t.Fatalf("Put(%d) = %d", x.Key, e)
	}
}

// dels fails the test unless a Del goes well.
func dels(t *testing.T, p *pager.Pager, root int, key uint64) {
	t.Helper()
	if e := btree.Del(p, root, key); e != api.OK {
		t.Fatalf("Del(%d) = %d", key, e)
	}
}

// deep fails the test unless Deep answers so.
func deep(t *testing.T, p *pager.Pager, root, want int) {
	t.Helper()
	if n, e := btree.Deep(p, root); n != want || e != api.OK {
		t.Fatalf("Deep = %d, %d, not %d", n, e, want)
	}
}

// all fails the test unless All answers these pairs.
func all(t *testing.T, p *pager.Pager, root int, want []btree.Pair) {
	t.Helper()
	if l, e := btree.All(p, root); !slices.Equal(l, want) || e != api.OK {
		t.Fatalf("All = %d pairs, %d, not these %d", len(l), e, len(want))
	}
}

// pages fails the test unless Pages answers these numbers.
func pages(t *testing.T, p *pager.Pager, root int, want []int) {
	t.Helper()
	if l, e := btree.Pages(p, root); !slices.Equal(l, want) || e != api.OK {
		t.Fatalf("Pages = %v, %d, not %v", l, e, want)
	}
}

// walksNot fails the test unless All and Pages answer that error and nothing
// else.
func walksNot(t *testing.T, p *pager.Pager, root int, want api.Errno) {
	t.Helper()
	if l, e := btree.All(p, root); len(l) != 0 || e != want {
		t.Fatalf("All = %d pairs, %d, not the error %d", len(l), e, want)
	}
	if l, e := btree.Pages(p, root); len(l) != 0 || e != want {
		t.Fatalf("Pages = %v, %d, not the error %d", l, e, want)
	}
}

// deepNot fails the test unless Deep answers that error and nothing else.
func deepNot(t *testing.T, p *pager.Pager, root int, want api.Errno) {
	t.Helper()
	if n, e := btree.Deep(p, root); n != 0 || e != want {
		t.Fatalf("Deep = %d, %d, not the error %d", n, e, want)
	}
}

// changesNot fails the test unless Put and Del of a key answer that error.
func changesNot(t *testing.T, p *pager.Pager, root int, key uint64, want api.Errno) {
	t.Helper()
	is(t, "Put", btree.Put(p, root, key, 1), want)
	is(t, "Del", btree.Del(p, root, key), want)
}

// nothing fails the test unless all calls answer that error and nothing else,
// whatever the key.
func nothing(t *testing.T, p *pager.Pager, root int, want api.Errno) {
	t.Helper()
	for _, key := range []uint64{0, 1, 5, 1 << 32, math.MaxUint64} {
		getsNot(t, p, root, key, want)
		changesNot(t, p, root, key, want)
	}
	walksNot(t, p, root, want)
	deepNot(t, p, root, want)
}

// bare fails the test unless there is nothing on a root.
func bare(t *testing.T, p *pager.Pager, root int) {
	t.Helper()
	for _, key := range []uint64{0, 1, math.MaxUint64} {
		getsNot(t, p, root, key, api.ErrNone)
		is(t, "Del", btree.Del(p, root, key), api.ErrNone)
	}
	all(t, p, root, nil)
	pages(t, p, root, nil)
	deep(t, p, root, 0)
}

// The errors of the pager.

func TestNoPager(t *testing.T) {
	for _, root := range []int{math.MinInt, -1, 0, 7, 8, math.MaxInt} {
		nothing(t, nil, root, api.ErrArg)
	}
}

func TestNoRoot(t *testing.T) {
	d, p := made(t, 20, 20)
	wrong := []int{math.MinInt, -1, 8, 1 << 32, math.MaxInt}
	for range 2 {
		for _, root := range wrong {
			nothing(t, p, root, api.ErrArg)
		}
		puts(t, p, 0, btree.Pair{Key: 1, Val: 2})
	}
	d.Fuse(0)
	is(t, "Flush", d.Flush(), api.ErrDown)
	for _, root := range wrong {
		nothing(t, p, root, api.ErrArg)
	}
}

func TestThePowerIsGone(t *testing.T) {
	for _, n := range []int{0, 3, 40} {
		d, p := made(t, 20, 20)
		for _, x := range pairs(1, 2, n) {
			puts(t, p, 3, x)
		}
		is(t, "Commit", p.Commit(), api.OK)
		d.Fuse(0)
		is(t, "Flush", d.Flush(), api.ErrDown)
		for root := range 8 {
			nothing(t, p, root, api.ErrDown)
		}
		// With the power, what was there is there.
		d.Crash(nil, -1, 0)
		p = opened(t, d, 20)
		all(t, p, 3, pairs(1, 2, n))
	}
}

func TestPagesThatAreNotInUse(t *testing.T) {
	_, p := made(t, 20, 20)
	for _, no := range []uint64{1, 2, 19, 20, 21, 1<<31 - 1} {
		is(t, "SetRoot", p.SetRoot(2, no), api.OK)
		nothing(t, p, 2, api.ErrArg)
	}
	there := pairs(10, 1, 20)
	for _, no := range []uint64{4, 20, 1<<31 - 1, 1 << 31, 1<<32 - 1} {
		// What is on the other side is found all the same.
		l := leaf(t, p, there...)
		hangs(t, p, 2, fork(t, p, int(no), btree.Pair{Key: 10, Val: uint64(l)}))
		gets(t, p, 2, there[0])
		getsNot(t, p, 2, 9, api.ErrArg)
		changesNot(t, p, 2, 9, api.ErrArg)
		walksNot(t, p, 2, api.ErrArg)
		deepNot(t, p, 2, api.ErrArg)
		hangs(t, p, 2, fork(t, p, l, btree.Pair{Key: 40, Val: no}))
		gets(t, p, 2, there[0])
		getsNot(t, p, 2, 40, api.ErrArg)
		changesNot(t, p, 2, 40, api.ErrArg)
		walksNot(t, p, 2, api.ErrArg)
		deep(t, p, 2, 2)
		p.Abort()
	}
}

func TestPagesThatCannotBeRead(t *testing.T) {
	d, p := made(t, 20, 20)
	keys := pairs(0, 1, 60)
	a, b := leaf(t, p, keys[:30]...), leaf(t, p, keys[30:]...)
	top := fork(t, p, a, btree.Pair{Key: 30, Val: uint64(b)})
	hangs(t, p, 0, top)
	is(t, "Commit", p.Commit(), api.OK)
	is(t, "Checkpoint", p.Checkpoint(), api.OK)
	spoilt := func(no int) *pager.Pager {
		image := []byte(d.Image())
		image[64*(2+800+8*no)+200] ^= 1
		worse, e := disk.Load(string(image))
		is(t, "Load", e, api.OK)
		return opened(t, worse, 20)
	}
	nothing(t, spoilt(top), 0, api.ErrSum)
	p = spoilt(a)
	getsNot(t, p, 0, 29, api.ErrSum)
	changesNot(t, p, 0, 29, api.ErrSum)
	walksNot(t, p, 0, api.ErrSum)
	deepNot(t, p, 0, api.ErrSum)
	gets(t, p, 0, keys[30])
	p = spoilt(b)
	getsNot(t, p, 0, 30, api.ErrSum)
	changesNot(t, p, 0, 30, api.ErrSum)
	walksNot(t, p, 0, api.ErrSum)
	deep(t, p, 0, 2)
	gets(t, p, 0, keys[29])
	// A Del that needs a page beside comes upon it.
	for _, x := range keys[:15] {
		dels(t, p, 0, x.Key)
	}
	is(t, "Del", btree.Del(p, 0, 20), api.ErrSum)
}

func TestTheDiskIsFull(t *testing.T) {
	_, p := made(t, 1, 20)
	is(t, "Put", btree.Put(p, 0, 1, 1), api.ErrFull)
	p.Abort()
	bare(t, p, 0)
	// A leaf is all that there is room for, then that and another one.
	for _, most := range []int{2, 3} {
		_, p = made(t, most, 20)
		for _, x := range pairs(0, 1, 30) {
			puts(t, p, 0, x)
		}
		is(t, "Commit", p.Commit(), api.OK)
		puts(t, p, 0, btree.Pair{Key: 29, Val: 7})
		is(t, "Put", btree.Put(p, 0, 30, 1), api.ErrFull)
		p.Abort()
		all(t, p, 0, pairs(0, 1, 30))
	}
	_, p = made(t, 4, 20)
	for _, x := range pairs(0, 1, 31) {
		puts(t, p, 0, x)
	}
	all(t, p, 0, pairs(0, 1, 31))
}

func TestTooManyPagesAreDirty(t *testing.T) {
	_, p := made(t, 20, 2)
	for _, x := range pairs(0, 1, 30) {
		puts(t, p, 0, x)
	}
	is(t, "Commit", p.Commit(), api.OK)
	is(t, "Put", btree.Put(p, 0, 30, 1), api.ErrBig)
	p.Abort()
	all(t, p, 0, pairs(0, 1, 30))
	// Other pages are dirty as well, one or two of them.
	for _, x := range pairs(1, 1, 29) {
		dels(t, p, 0, x.Key)
	}
	is(t, "Commit", p.Commit(), api.OK)
	a := leaf(t, p)
	is(t, "Commit", p.Commit(), api.OK)
	b := leaf(t, p)
	is(t, "Commit", p.Commit(), api.OK)
	is(t, "Write", p.Write(a, 9, ""), api.OK)
	is(t, "Del", btree.Del(p, 0, 0), api.ErrBig)
	p.Abort()
	is(t, "Write", p.Write(a, 9, ""), api.OK)
	is(t, "Write", p.Write(b, 9, ""), api.OK)
	is(t, "Del", btree.Del(p, 0, 0), api.ErrBig)
	is(t, "Put", btree.Put(p, 0, 0, 1), api.ErrBig)
	p.Abort()
	all(t, p, 0, pairs(0, 1, 1))
}

func TestTooManyPagesAreDirtyOnTheWay(t *testing.T) {
	// However few pages may be dirty, a call answers ErrBig, or all of it is done.
	tree := func(sizes ...int) func(*testing.T, *pager.Pager) []btree.Pair {
		return func(t *testing.T, p *pager.Pager) []btree.Pair { return shaped(t, p, sizes...) }
	}
	forks := func(sizes ...int) func(*testing.T, *pager.Pager) []btree.Pair {
		return func(t *testing.T, p *pager.Pager) []btree.Pair { return high(t, p, sizes...) }
	}
	for i, c := range []struct {
		make func(*testing.T, *pager.Pager) []btree.Pair
		put  bool
		need int // how many pages are changed, with the page 0
	}{
		{tree(30, 15), true, 4}, {tree(15, 15, 15), false, 4}, {tree(15, 30), false, 3}, {tree(15, 15), false, 4},
		{forks(21, 21), false, 6}, {forks(21, 22), false, 6},
	} {
		for room := 2; room <= 8; room++ {
			d, p := made(t, 100, 100)
			l := c.make(t, p)
			is(t, "Commit", p.Commit(), api.OK)
			p = opened(t, d, room)
			e, after := api.OK, l
			if c.put {
				e = btree.Put(p, 0, 1, 1)
				after = sorted(append(slices.Clone(l), btree.Pair{Key: 1, Val: 1}))
			} else {
				e = btree.Del(p, 0, 0)
				after = l[1:]
			}
			if room < c.need {
				is(t, "a call of too many pages", e, api.ErrBig)
				p.Abort()
				after = l
			} else if e != api.OK || p.Dirty() != c.need {
				t.Errorf("the tree %d, %d pages: %d, %d are dirty", i, room, e, p.Dirty())
			}
			holds(t, p, 0, after)
			free(t, p, 0)
		}
	}
}

// Promise 13.1: Get, All, Pages, Deep.

func TestNothing(t *testing.T) {
	_, p := made(t, 20, 20)
	unchanged(t, p, func() {
		for root := range 8 {
			bare(t, p, root)
		}
	})
}

func TestOneLeaf(t *testing.T) {
	_, p := made(t, 20, 20)
	ends := []btree.Pair{{Key: 0, Val: math.MaxUint64}, {Key: 1 << 63, Val: 0}, {Key: math.MaxUint64, Val: 1 << 63}}
	for root, l := range [][]btree.Pair{ends, ends[:1], ends[2:], pairs(7, 1, 1), pairs(9, 256, 15), pairs(1<<63, 1<<32, 30)} {
		no := leaf(t, p, l...)
		hangs(t, p, root, no)
		unchanged(t, p, func() {
			for _, x := range l {
				gets(t, p, root, x)
			}
			for _, key := range []uint64{2, 8, 10, 1<<63 - 1, 1<<63 + 1, 1<<64 - 2} {
				getsNot(t, p, root, key, api.ErrNone)
				is(t, "Del", btree.Del(p, root, key), api.ErrNone)
			}
			all(t, p, root, l)
			pages(t, p, root, []int{no})
			deep(t, p, root, 1)
		})
	}
}

func TestAForkAboveLeaves(t *testing.T) {
	for _, n := range []int{1, 2, 20, 39, 40} {
		_, p := made(t, 60, 60)
		// Keys are 10 apart, and those of the fork 5 below: of the leaves' pages,
		// the numbers fall as the keys rise.
		var below []btree.Pair
		var want []btree.Pair
		for i := n; i >= 0; i-- {
			l := pairs(uint64(1000*i), 10, 15+i%16)
			want = slices.Concat(l, want)
			no := leaf(t, p, l...)
			below = slices.Insert(below, 0, btree.Pair{Key: uint64(max(0, 1000*i-5)), Val: uint64(no)})
		}
		top := fork(t, p, int(below[0].Val), below[1:]...)
		hangs(t, p, 5, top)
		unchanged(t, p, func() {
			for _, x := range want {
				gets(t, p, 5, x)
				getsNot(t, p, 5, x.Key+5, api.ErrNone)
			}
			for _, x := range below[1:] {
				getsNot(t, p, 5, x.Key-1, api.ErrNone)
				getsNot(t, p, 5, x.Key, api.ErrNone)
				is(t, "Del", btree.Del(p, 5, x.Key), api.ErrNone)
			}
			getsNot(t, p, 5, math.MaxUint64, api.ErrNone)
			all(t, p, 5, want)
			var nos []int
			for i := range n + 2 {
				nos = append(nos, i+1)
			}
			pages(t, p, 5, nos)
			deep(t, p, 5, 2)
		})
	}
}

func TestTheKeyOfAForkItself(t *testing.T) {
	// What is at a fork's key or above it stands behind it, what is less ahead.
	_, p := made(t, 20, 20)
	a, b, c := pairs(0, 1, 15), pairs(100, 1, 15), pairs(math.MaxUint64-14, 1, 15)
	first, second, third := leaf(t, p, a...), leaf(t, p, b...), leaf(t, p, c...)
	for _, keys := range [][]uint64{{15, 115}, {100, math.MaxUint64 - 14}, {50, 1 << 63}} {
		hangs(t, p, 0, fork(t, p, first, btree.Pair{Key: keys[0], Val: uint64(second)}, btree.Pair{Key: keys[1], Val: uint64(third)}))
		for _, x := range slices.Concat(a, b, c) {
			gets(t, p, 0, x)
		}
		all(t, p, 0, slices.Concat(a, b, c))
	}
}

// Promise 13.2: Put.

func TestPutOfTheExample(t *testing.T) {
	_, p := made(t, 20, 20)
	puts(t, p, 0, btree.Pair{Key: 5, Val: 50})
	puts(t, p, 0, btree.Pair{Key: 3, Val: 30})
	all(t, p, 0, []btree.Pair{{Key: 3, Val: 30}, {Key: 5, Val: 50}})
	kind, room, e := p.Read(1)
	want := "\x02\x00" + "\x03" + noughts(7) + "\x1e" + noughts(7) + "\x05" + noughts(7) + "\x32" + noughts(469)
	if kind != 2 || room != want || e != api.OK {
		t.Errorf("the leaf is %d, %q, %d", kind, room, e)
	}
}

func TestThirtyPairsAndOneMore(t *testing.T) {
	for at := range 31 {
		_, p := made(t, 20, 20)
		l := pairs(1000, 3, 31)
		for i, x := range l {
			if i != at {
				puts(t, p, 1, x)
			}
		}
		deep(t, p, 1, 1)
		pages(t, p, 1, []int{1})
		puts(t, p, 1, l[at])
		all(t, p, 1, l)
		deep(t, p, 1, 2)
		pages(t, p, 1, []int{1, 2, 3})
		holds(t, p, 1, l)
	}
}

func TestPutOfWhatIsThere(t *testing.T) {
	_, p := made(t, 60, 60)
	l := pairs(0, 7, 200)
	for _, x := range l {
		puts(t, p, 0, x)
	}
	is(t, "Commit", p.Commit(), api.OK)
	before := p.Pages()
	for i := range l {
		l[i].Val = uint64(i) << 40
		puts(t, p, 0, l[i])
		gets(t, p, 0, l[i])
		holds(t, p, 0, l)
	}
	if p.Pages() != before {
		t.Errorf("%d pages were taken", p.Pages()-before)
	}
	// A full leaf takes it as well.
	full := pairs(0, 1, 30)
	for _, x := range slices.Concat(full, full) {
		puts(t, p, 1, x)
	}
	holds(t, p, 1, full)
	deep(t, p, 1, 1)
}

func TestKeysAtTheEnds(t *testing.T) {
	_, p := made(t, 60, 60)
	var l []btree.Pair
	for i := range uint64(50) {
		l = append(l, btree.Pair{Key: i, Val: math.MaxUint64 - i})
	}
	for i := range uint64(50) {
		l = append(l, btree.Pair{Key: math.MaxUint64 - 49 + i, Val: i})
	}
	for i := range l {
		puts(t, p, 0, l[i*37%100])
	}
	holds(t, p, 0, l)
	for i := range l {
		k := (i*61 + 99) % 100
		dels(t, p, 0, l[k].Key)
		getsNot(t, p, 0, l[k].Key, api.ErrNone)
	}
	bare(t, p, 0)
}

// Promise 13.3: Del.

func TestDelOfWhatIsNotThere(t *testing.T) {
	_, p := made(t, 100, 100)
	for root, n := range []int{1, 15, 30, 31, 500} {
		l := pairs(10, 10, n)
		for _, x := range l {
			puts(t, p, root, x)
		}
		is(t, "Commit", p.Commit(), api.OK)
		unchanged(t, p, func() {
			for _, x := range l {
				is(t, "Del", btree.Del(p, root, x.Key-1), api.ErrNone)
				is(t, "Del", btree.Del(p, root, x.Key+1), api.ErrNone)
			}
			is(t, "Del", btree.Del(p, root, 0), api.ErrNone)
			is(t, "Del", btree.Del(p, root, math.MaxUint64), api.ErrNone)
		})
		if p.Dirty() > 0 {
			t.Error("a transaction is under way")
		}
	}
}

func TestDelOfEachOne(t *testing.T) {
	for _, n := range []int{1, 2, 29, 30, 31, 32, 45, 60, 61} {
		_, p := made(t, 20, 20)
		l := pairs(1, 1, n)
		for _, x := range l {
			puts(t, p, 0, x)
		}
		is(t, "Commit", p.Commit(), api.OK)
		for i, x := range l {
			dels(t, p, 0, x.Key)
			getsNot(t, p, 0, x.Key, api.ErrNone)
			is(t, "Del", btree.Del(p, 0, x.Key), api.ErrNone)
			holds(t, p, 0, slices.Concat(l[:i], l[i+1:]))
			p.Abort()
		}
	}
}

func TestDelOfTheLastOne(t *testing.T) {
	_, p := made(t, 20, 20)
	puts(t, p, 6, btree.Pair{Key: 9, Val: 9})
	dels(t, p, 6, 9)
	bare(t, p, 6)
	if n, e := p.Root(6); n != 0 || e != api.OK {
		t.Errorf("Root = %d, %d", n, e)
	}
	free(t, p)
}

// shaped makes a tree of a fork above leaves with so many pairs, and answers all
// of these.
func shaped(t *testing.T, p *pager.Pager, sizes ...int) []btree.Pair {
	t.Helper()
	var out, below []btree.Pair
	for i, n := range sizes {
		l := pairs(uint64(1000*i), 2, n)
		below = append(below, btree.Pair{Key: uint64(1000 * i), Val: uint64(leaf(t, p, l...))})
		out = append(out, l...)
	}
	hangs(t, p, 0, fork(t, p, int(below[0].Val), below[1:]...))
	return out
}

func TestLeavesThatGetTooFew(t *testing.T) {
	for _, sizes := range [][]int{{15, 15}, {15, 16}, {16, 15}, {15, 30}, {30, 15}, {15, 15, 15}, {15, 30, 15}, {30, 15, 30}, {20, 15, 15}} {
		_, p := made(t, 20, 20)
		l := shaped(t, p, sizes...)
		holds(t, p, 0, l)
		is(t, "Commit", p.Commit(), api.OK)
		for i, x := range l {
			dels(t, p, 0, x.Key)
			holds(t, p, 0, slices.Concat(l[:i], l[i+1:]))
			p.Abort()
		}
	}
}

// high makes a tree of three pages above one another, whose forks have so many
// leaves of 15 pairs, and answers all of these.
func high(t *testing.T, p *pager.Pager, sizes ...int) []btree.Pair {
	t.Helper()
	var out, below []btree.Pair
	for i, n := range sizes {
		var leaves []btree.Pair
		for j := range n {
			l := pairs(uint64(100000*i+1000*j), 2, 15)
			leaves = append(leaves, btree.Pair{Key: l[0].Key, Val: uint64(leaf(t, p, l...))})
			out = append(out, l...)
		}
		no := fork(t, p, int(leaves[0].Val), leaves[1:]...)
		below = append(below, btree.Pair{Key: uint64(100000 * i), Val: uint64(no)})
	}
	hangs(t, p, 0, fork(t, p, int(below[0].Val), below[1:]...))
	return out
}

func TestForksThatGetTooFew(t *testing.T) {
	for _, sizes := range [][]int{{21, 21}, {21, 22}, {22, 21}, {21, 41}, {41, 21}, {21, 21, 21}, {21, 41, 21}, {41, 21, 41}} {
		_, p := made(t, 200, 200)
		l := high(t, p, sizes...)
		holds(t, p, 0, l)
		before := tale(t, p)
		for i := 0; i < len(l); i += 29 {
			dels(t, p, 0, l[i].Key)
			holds(t, p, 0, slices.Concat(l[:i], l[i+1:]))
			p.Abort()
			high(t, p, sizes...)
			if tale(t, p) != before {
				t.Fatal("the tree isn't made as it was")
			}
		}
	}
}

func TestForksThatGetTooMany(t *testing.T) {
	for _, sizes := range [][]int{{41, 41}, {41, 21}, {21, 41}} {
		_, p := made(t, 300, 300)
		l := high(t, p, sizes...)
		for _, at := range []int{0, 300, 614, 615, 616, 900} {
			// One leaf gets full, and then is parted.
			at = min(at, len(l)-1)
			var more []btree.Pair
			for i := range uint64(16) {
				more = append(more, btree.Pair{Key: l[at].Key + 1 + 2*i, Val: i})
			}
			for _, x := range more {
				puts(t, p, 0, x)
			}
			holds(t, p, 0, sorted(slices.Concat(l, more)))
			p.Abort()
			high(t, p, sizes...)
		}
	}
}
