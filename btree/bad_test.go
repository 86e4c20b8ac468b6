package btree_test

import (
	"math"
	"slices"
	"testing"

	"croft/api"
	"croft/btree"
	"croft/pager"
)

// What is no tree: ErrBad.

func TestRootsThatAreNoPages(t *testing.T) {
	_, p := made(t, 20, 20)
	leaf(t, p, pairs(1, 1, 20)...)
	for _, n := range []uint64{1 << 31, 1<<31 + 1, 1<<32 - 1, 1 << 32, 1<<32 + 1, 1 << 40, 1 << 63, 1<<63 + 1, math.MaxUint64} {
		is(t, "SetRoot", p.SetRoot(4, n), api.OK)
		unchanged(t, p, func() { nothing(t, p, 4, api.ErrBad) })
	}
}

// page is a kind and a room.
type page struct {
	kind int
	room string
}

// wrongPages are no leaves or forks; those that are nearly forks have pages
// below that are right.
func wrongPages(below int) []page {
	l := pairs(1<<40, 1, 30)
	down := []btree.Pair{{Key: 5, Val: 1}, {Key: 4, Val: 2}}
	same := []btree.Pair{{Key: 4, Val: 1}, {Key: 4, Val: 2}}
	forks := func(n int) []btree.Pair {
		var out []btree.Pair
		for i := range n {
			out = append(out, btree.Pair{Key: uint64(1000 * i), Val: uint64(below)})
		}
		return out
	}
	swapped := slices.Clone(l)
	swapped[28], swapped[29] = swapped[29], swapped[28]
	tail := func(kind int, room string, at int) page {
		raw := []byte(room + noughts(496-len(room)))
		raw[at] = 1
		return page{kind, string(raw)}
	}
	out := []page{
		{2, ""}, {3, ""},
		{2, low(0, 2) + leafRoom(l...)[2:]},
		{3, low(0, 2) + forkRoom(below, forks(9)...)[2:]},
		// Of one that is told to have more than it may, all that there is room for
		// is right.
		{2, low(31, 2) + leafRoom(l...)[2:]},
		{2, low(31, 2) + leafRoom(l...)[2:] + low(1<<41, 8) + low(1, 6)},
		{2, low(256+1, 2) + leafRoom(l...)[2:]},
		{2, low(65535, 2) + leafRoom(l...)[2:]},
		{3, low(41, 2) + forkRoom(below, forks(40)...)[2:]},
		{3, low(41, 2) + forkRoom(below, forks(40)...)[2:] + low(1<<41, 8) + low(1, 2)},
		{3, low(256+1, 2) + forkRoom(below, forks(40)...)[2:]},
		{3, low(65535, 2) + forkRoom(below, forks(40)...)[2:]},
		// Keys that don't rise.
		{2, leafRoom(down...)}, {2, leafRoom(same...)}, {2, leafRoom(swapped...)},
		{2, leafRoom(btree.Pair{Key: math.MaxUint64}, btree.Pair{Key: 0})},
		{2, leafRoom(btree.Pair{Key: 1 << 63}, btree.Pair{Key: 1<<63 - 1})},
		{2, leafRoom(slices.Concat(l[:15], l[14:29])...)},
		{3, forkRoom(below, btree.Pair{Key: 5, Val: uint64(below)}, btree.Pair{Key: 4, Val: uint64(below)})},
		{3, forkRoom(below, btree.Pair{Key: 5, Val: uint64(below)}, btree.Pair{Key: 5, Val: uint64(below)})},
		{3, forkRoom(below, slices.Concat(forks(20), forks(20))...)},
		// Bytes behind that aren't 00.
		tail(2, leafRoom(l[:1]...), 18), tail(2, leafRoom(l[:1]...), 495), tail(2, leafRoom(l...), 482), tail(2, leafRoom(l...), 495),
		tail(3, forkRoom(below, forks(1)...), 18), tail(3, forkRoom(below, forks(1)...), 495),
		tail(3, forkRoom(below, forks(40)...), 486), tail(3, forkRoom(below, forks(40)...), 495),
	}
	for _, kind := range []int{4, 5, 6, 130, 131, 254} {
		out = append(out, page{kind, leafRoom(l...)}, page{kind, forkRoom(below, forks(9)...)})
	}
	return out
}

func TestPagesThatAreNone(t *testing.T) {
	there := pairs(1<<50, 1, 20)
	for i, w := range wrongPages(1) {
		_, p := made(t, 20, 20)
		good := leaf(t, p, there...)
		bad := laid(t, p, w.kind, w.room)
		hangs(t, p, 0, bad)
		hangs(t, p, 1, fork(t, p, bad, btree.Pair{Key: 1 << 50, Val: uint64(good)}))
		hangs(t, p, 2, fork(t, p, good, btree.Pair{Key: 1 << 60, Val: uint64(bad)}))
		told := tale(t, p)
		nothing(t, p, 0, api.ErrBad)
		// The page is met where it stands on the way.
		gets(t, p, 1, there[0])
		getsNot(t, p, 1, 1<<50-1, api.ErrBad)
		changesNot(t, p, 1, 1<<50-1, api.ErrBad)
		deepNot(t, p, 1, api.ErrBad)
		walksNot(t, p, 1, api.ErrBad)
		gets(t, p, 2, there[0])
		getsNot(t, p, 2, 1<<60, api.ErrBad)
		changesNot(t, p, 2, 1<<60, api.ErrBad)
		deep(t, p, 2, 2)
		walksNot(t, p, 2, api.ErrBad)
		if tale(t, p) != told {
			t.Errorf("the wrong page %d: something was changed", i)
		}
		is(t, "Put", btree.Put(p, 1, 1<<50, 1), api.OK)
		is(t, "Put", btree.Put(p, 2, 0, 1), api.OK)
	}
}

func TestTheLeastAndTheMostOfAPage(t *testing.T) {
	for _, n := range []int{1, 2, 14, 15, 29, 30} {
		_, p := made(t, 20, 20)
		l := pairs(math.MaxUint64-29, 1, n)
		hangs(t, p, 0, leaf(t, p, l...))
		all(t, p, 0, l)
		gets(t, p, 0, l[n-1])
	}
	for _, n := range []int{1, 19, 20, 40} {
		_, p := made(t, 20, 20)
		l := pairs(5, 1, 20)
		no := leaf(t, p, l...)
		var forks []btree.Pair
		for i := range n {
			forks = append(forks, btree.Pair{Key: uint64(100 * (i + 1)), Val: uint64(no)})
		}
		hangs(t, p, 0, fork(t, p, no, forks...))
		gets(t, p, 0, l[0])
		deep(t, p, 0, 2)
		// It is met more than once.
		walksNot(t, p, 0, api.ErrBad)
	}
}

func TestFreePagesAreNone(t *testing.T) {
	_, p := made(t, 20, 20)
	l := pairs(1, 1, 20)
	good, bad := leaf(t, p, l...), leaf(t, p, pairs(50, 1, 20)...)
	hangs(t, p, 0, fork(t, p, good, btree.Pair{Key: 50, Val: uint64(bad)}))
	is(t, "Free", p.Free(bad), api.OK)
	gets(t, p, 0, l[0])
	getsNot(t, p, 0, 50, api.ErrBad)
	changesNot(t, p, 0, 50, api.ErrBad)
	walksNot(t, p, 0, api.ErrBad)
	hangs(t, p, 1, bad)
	nothing(t, p, 1, api.ErrBad)
}

func TestThePageNoughtBelow(t *testing.T) {
	_, p := made(t, 20, 20)
	l := pairs(100, 1, 20)
	no := uint64(leaf(t, p, l...))
	hangs(t, p, 0, fork(t, p, 0, btree.Pair{Key: 100, Val: no}, btree.Pair{Key: 200, Val: 0}, btree.Pair{Key: 300, Val: no}))
	hangs(t, p, 1, fork(t, p, int(no), btree.Pair{Key: 200, Val: 0}))
	unchanged(t, p, func() {
		for _, key := range []uint64{0, 99, 200, 299} {
			getsNot(t, p, 0, key, api.ErrBad)
			changesNot(t, p, 0, key, api.ErrBad)
		}
		gets(t, p, 0, l[0])
		deepNot(t, p, 0, api.ErrBad)
		deep(t, p, 1, 2)
		walksNot(t, p, 0, api.ErrBad)
		walksNot(t, p, 1, api.ErrBad)
	})
}

// chain makes so many pages that stand above one another, a leaf the lowest; the
// forks are full, if they are to be, and beside the way all is one leaf.
func chain(t *testing.T, p *pager.Pager, root, deep int, full bool, l []btree.Pair) {
	t.Helper()
	beside := uint64(leaf(t, p, pairs(1<<60, 1, 20)...))
	no := leaf(t, p, l...)
	for level := range uint64(deep - 1) {
		// The keys of a fork are less than those of the one above.
		from := 1<<50 + 100*level
		forks := []btree.Pair{{Key: from, Val: beside}}
		for i := range uint64(39) {
			if full {
				forks = append(forks, btree.Pair{Key: from + 1 + i, Val: beside})
			}
		}
		no = fork(t, p, no, forks...)
	}
	hangs(t, p, root, no)
}

func TestHowManyPagesMayStandAboveOneAnother(t *testing.T) {
	l := pairs(10, 2, 30)
	for n := 1; n <= 20; n++ {
		_, p := made(t, 100, 100)
		chain(t, p, 0, n, false, l)
		if n > 16 {
			told := tale(t, p)
			getsNot(t, p, 0, 10, api.ErrBad)
			changesNot(t, p, 0, 10, api.ErrBad)
			deepNot(t, p, 0, api.ErrBad)
			walksNot(t, p, 0, api.ErrBad)
			if tale(t, p) != told {
				t.Fatal("something was changed")
			}
			continue
		}
		for _, x := range l {
			gets(t, p, 0, x)
		}
		deep(t, p, 0, n)
		if n > 2 {
			walksNot(t, p, 0, api.ErrBad)
		}
		puts(t, p, 0, btree.Pair{Key: 15, Val: 3})
		gets(t, p, 0, btree.Pair{Key: 15, Val: 3})
		// 31 pairs were parted in two leaves: this one goes without others.
		dels(t, p, 0, 68)
		getsNot(t, p, 0, 68, api.ErrNone)
	}
}

func TestATreeThatWouldGetTooDeep(t *testing.T) {
	l := pairs(10, 2, 30)
	for _, n := range []int{1, 2, 3, 15, 16} {
		_, p := made(t, 100, 100)
		chain(t, p, 0, n, true, l)
		if n == 16 {
			is(t, "Put", btree.Put(p, 0, 15, 3), api.ErrBad)
			continue
		}
		puts(t, p, 0, btree.Pair{Key: 15, Val: 3})
		gets(t, p, 0, btree.Pair{Key: 15, Val: 3})
		for _, x := range l {
			gets(t, p, 0, x)
		}
		deep(t, p, 0, n+1)
	}
}

func TestPagesThatLeadToThemselves(t *testing.T) {
	_, p := made(t, 20, 20)
	a, b := laid(t, p, 3, ""), laid(t, p, 3, "")
	x := btree.Pair{Key: 5, Val: uint64(b)}
	is(t, "Write", p.Write(a, 3, forkRoom(b, x)), api.OK)
	is(t, "Write", p.Write(b, 3, forkRoom(a, btree.Pair{Key: 5, Val: uint64(a)})), api.OK)
	hangs(t, p, 0, a)
	unchanged(t, p, func() { nothing(t, p, 0, api.ErrBad) })
	is(t, "Write", p.Write(a, 3, forkRoom(a, btree.Pair{Key: 5, Val: uint64(a)})), api.OK)
	unchanged(t, p, func() { nothing(t, p, 0, api.ErrBad) })
	// Just one of the ways ends.
	l := pairs(5, 1, 15)
	is(t, "Write", p.Write(a, 3, forkRoom(a, btree.Pair{Key: 5, Val: uint64(leaf(t, p, l...))})), api.OK)
	gets(t, p, 0, l[0])
	getsNot(t, p, 0, 4, api.ErrBad)
	deepNot(t, p, 0, api.ErrBad)
	walksNot(t, p, 0, api.ErrBad)
}

// Promise 13.1: what All and Pages refuse, too. Get and Deep don't.

// refuses fails the test unless just All and Pages refuse a tree that has these
// pairs where they are looked for.
func refuses(t *testing.T, p *pager.Pager, root, high int, found []btree.Pair) {
	t.Helper()
	unchanged(t, p, func() {
		walksNot(t, p, root, api.ErrBad)
		for _, x := range found {
			gets(t, p, root, x)
		}
		deep(t, p, root, high)
	})
}

func TestLeavesThatDoNotStandEquallyDeep(t *testing.T) {
	_, p := made(t, 100, 100)
	var low, below []btree.Pair
	for i := range uint64(21) {
		l := pairs(1000+100*i, 1, 15)
		below = append(below, btree.Pair{Key: l[0].Key, Val: uint64(leaf(t, p, l...))})
		low = append(low, l...)
	}
	middle := fork(t, p, int(below[0].Val), below[1:]...)
	ahead, behind := pairs(0, 1, 15), pairs(5000, 1, 15)
	first, last := leaf(t, p, ahead...), leaf(t, p, behind...)
	hangs(t, p, 0, fork(t, p, first, btree.Pair{Key: 1000, Val: uint64(middle)}))
	refuses(t, p, 0, 2, slices.Concat(ahead, low))
	hangs(t, p, 1, fork(t, p, middle, btree.Pair{Key: 5000, Val: uint64(last)}))
	refuses(t, p, 1, 3, slices.Concat(low, behind))
	hangs(t, p, 2, fork(t, p, first, btree.Pair{Key: 1000, Val: uint64(middle)}, btree.Pair{Key: 5000, Val: uint64(last)}))
	refuses(t, p, 2, 2, slices.Concat(ahead, low, behind))
}

func TestKeysThatStandWhereTheyDoNotBelong(t *testing.T) {
	for _, c := range []struct {
		a, b       uint64 // where the pairs of two leaves begin
		key        uint64
		ahead, all bool // whether Get finds the pairs of the first, and of both
	}{
		{100, 200, 115, true, true}, {100, 200, 200, true, true},
		{100, 200, 114, false, false}, {100, 200, 201, true, false},
		{200, 100, 150, false, false}, {100, 110, 115, true, false},
		{100, 100, 115, true, false}, {100, 101, 115, true, false},
		{math.MaxUint64 - 14, 0, 0, false, false}, {0, math.MaxUint64 - 14, math.MaxUint64, true, false},
		{0, math.MaxUint64 - 14, math.MaxUint64 - 14, true, true}, {0, 50, 14, false, false},
	} {
		_, p := made(t, 20, 20)
		a, b := pairs(c.a, 1, 15), pairs(c.b, 1, 15)
		first, second := leaf(t, p, a...), leaf(t, p, b...)
		hangs(t, p, 0, fork(t, p, first, btree.Pair{Key: c.key, Val: uint64(second)}))
		var found []btree.Pair
		if c.ahead {
			found = a
		}
		if c.all {
			holds(t, p, 0, slices.Concat(a, b))
			continue
		}
		refuses(t, p, 0, 2, found)
	}
}

func TestKeysThatDoNotBelongBelowTheTopmostFork(t *testing.T) {
	for _, end := range []struct {
		key  uint64
		fork int
		leaf int
		at   int
		ok   bool
	}{
		{100000 - 1, 0, 20, 14, true}, {100000, 0, 20, 14, false}, {math.MaxUint64, 0, 20, 14, false},
		{100000, 1, 0, 0, true}, {100000 - 1, 1, 0, 0, false}, {0, 1, 0, 0, false},
		{200000 - 1, 1, 20, 14, true}, {200000, 1, 20, 14, false}, {math.MaxUint64, 2, 20, 14, true},
		{200000, 2, 0, 0, true}, {200000 - 1, 2, 0, 0, false},
		{1000 - 1, 0, 0, 14, true}, {1000, 0, 0, 14, false}, {1000, 0, 1, 0, true}, {1000 - 1, 0, 1, 0, false},
	} {
		_, p := made(t, 200, 200)
		high(t, p, 21, 21, 21)
		// Each fork stands right behind its leaves.
		no := 1 + end.fork*22 + end.leaf
		l := pairs(uint64(100000*end.fork+1000*end.leaf), 2, 15)
		kind, room, e := p.Read(no)
		if kind != 2 || number(room[2:], 8) != l[0].Key || e != api.OK {
			t.Fatalf("the page %d is another one", no)
		}
		l[end.at].Key = end.key
		is(t, "Write", p.Write(no, 2, leafRoom(l...)), api.OK)
		if end.ok {
			_, e = btree.All(p, 0)
			is(t, "All", e, api.OK)
			reads(t, p, 0)
			continue
		}
		refuses(t, p, 0, 3, nil)
	}
}

func TestForkKeysThatDoNotBelong(t *testing.T) {
	for _, key := range []uint64{100000, 100001, 1 << 40, math.MaxUint64} {
		_, p := made(t, 200, 200)
		high(t, p, 21, 21)
		// The last key of the first fork is beyond that of the topmost one.
		_, room, e := p.Read(22)
		is(t, "Read", e, api.OK)
		is(t, "Write", p.Write(22, 3, room[:6+19*12]+low(key, 8)+room[6+19*12+8:]), api.OK)
		refuses(t, p, 0, 3, nil)
	}
	for _, key := range []uint64{99999, 50000, 20000, 19029} {
		_, p := made(t, 200, 200)
		l := high(t, p, 21, 21)
		_, room, e := p.Read(22)
		is(t, "Read", e, api.OK)
		is(t, "Write", p.Write(22, 3, room[:6+19*12]+low(key, 8)+room[6+19*12+8:]), api.OK)
		if key > 20000 {
			refuses(t, p, 0, 3, nil)
		} else {
			holds(t, p, 0, l)
		}
	}
}

func TestPagesWithTooFew(t *testing.T) {
	for _, sizes := range [][]int{{14, 15}, {15, 14}, {15, 14, 15}, {1, 1}, {30, 1}, {14, 30}} {
		_, p := made(t, 20, 20)
		refuses(t, p, 0, 2, shaped(t, p, sizes...))
	}
	for _, sizes := range [][]int{{20, 21}, {21, 20}, {21, 20, 21}, {2, 2}, {41, 2}, {20, 41}} {
		_, p := made(t, 200, 200)
		refuses(t, p, 0, 3, high(t, p, sizes...))
	}
	_, p := made(t, 20, 20)
	holds(t, p, 0, shaped(t, p, 15, 15))
	_, p = made(t, 200, 200)
	holds(t, p, 0, high(t, p, 21, 21))
}

func TestPagesThatAreMetTwice(t *testing.T) {
	_, p := made(t, 200, 200)
	l := pairs(10, 1, 15)
	no := leaf(t, p, l...)
	hangs(t, p, 0, fork(t, p, no, btree.Pair{Key: 100, Val: uint64(no)}))
	refuses(t, p, 0, 2, l)
	hangs(t, p, 1, fork(t, p, no, btree.Pair{Key: 10, Val: uint64(no)}))
	refuses(t, p, 1, 2, l)
	p.Abort()
	want := high(t, p, 21, 21, 21)
	_, room, e := p.Read(67)
	is(t, "Read", e, api.OK)
	is(t, "Write", p.Write(67, 3, room[:2]+low(22, 4)+low(100000, 8)+low(44, 4)+low(200000, 8)+low(22, 4)), api.OK)
	refuses(t, p, 0, 3, want[:2*21*15])
}

// Put and Del on what isn't a tree as it should be.

func TestTheLeastNumberIsAside(t *testing.T) {
	// Put and Del go well where pages have too few.
	for _, sizes := range [][]int{{1, 1}, {1, 30}, {30, 1}, {14, 3}, {2, 1, 2}} {
		_, p := made(t, 20, 20)
		l := shaped(t, p, sizes...)
		is(t, "Commit", p.Commit(), api.OK)
		for i, x := range l {
			dels(t, p, 0, x.Key)
			for j, y := range l {
				if i != j {
					gets(t, p, 0, y)
				}
			}
			getsNot(t, p, 0, x.Key, api.ErrNone)
			p.Abort()
			puts(t, p, 0, btree.Pair{Key: x.Key + 1, Val: 3})
			gets(t, p, 0, btree.Pair{Key: x.Key + 1, Val: 3})
			p.Abort()
		}
		for _, x := range l {
			dels(t, p, 0, x.Key)
		}
		bare(t, p, 0)
		free(t, p)
	}
}

func TestPutWhereKeysDoNotBelong(t *testing.T) {
	// A full leaf has keys that belong behind others: parted, it would have the
	// fork's keys not rise, whether the fork is full as well or not.
	for _, n := range []int{5, 39, 40} {
		for at := range n - 1 {
			_, p := made(t, 60, 60)
			var forks []btree.Pair
			for i := range uint64(n) {
				l := pairs(1000*(i+1), 1, 15)
				if int(i) == at {
					l = slices.Concat(l[:10], pairs(1<<40, 1, 20))
				}
				forks = append(forks, btree.Pair{Key: 1000 * (i + 1), Val: uint64(leaf(t, p, l...))})
			}
			hangs(t, p, 0, fork(t, p, leaf(t, p, pairs(0, 1, 15)...), forks...))
			is(t, "Put", btree.Put(p, 0, forks[at].Key+500, 1), api.ErrBad)
		}
	}
}

func TestDelBesideAnotherKindOfPage(t *testing.T) {
	_, p := made(t, 100, 100)
	first, second, third := leaf(t, p, pairs(0, 1, 15)...), leaf(t, p, pairs(100, 1, 15)...), leaf(t, p, pairs(200, 1, 15)...)
	under := fork(t, p, second, btree.Pair{Key: 200, Val: uint64(third)})
	hangs(t, p, 0, fork(t, p, first, btree.Pair{Key: 50, Val: uint64(under)}))
	is(t, "Del", btree.Del(p, 0, 0), api.ErrBad)
	hangs(t, p, 1, fork(t, p, under, btree.Pair{Key: 300, Val: uint64(leaf(t, p, pairs(300, 1, 15)...))}))
	is(t, "Del", btree.Del(p, 1, 300), api.ErrBad)
}

func TestDelBesideTheSamePage(t *testing.T) {
	_, p := made(t, 100, 100)
	one := leaf(t, p, pairs(0, 1, 15)...)
	hangs(t, p, 0, fork(t, p, one, btree.Pair{Key: 50, Val: uint64(one)}))
	is(t, "Del", btree.Del(p, 0, 0), api.ErrBad)
	// A fork beside itself, with keys that are right on either side.
	a, b := leaf(t, p, pairs(0, 1, 15)...), leaf(t, p, pairs(100, 1, 15)...)
	two := fork(t, p, a, btree.Pair{Key: 70, Val: uint64(b)})
	hangs(t, p, 1, fork(t, p, two, btree.Pair{Key: 50, Val: uint64(two)}))
	is(t, "Del", btree.Del(p, 1, 0), api.ErrBad)
}

func TestDelBesideKeysThatDoNotBelong(t *testing.T) {
	x := func(from uint64) []btree.Pair { return pairs(from, 1, 14) }
	one := func(key uint64) []btree.Pair { return pairs(key, 1, 1) }
	for _, c := range []struct {
		left, right []btree.Pair
		middle, key uint64
	}{
		// What goes stands on the other side as well, and would be found there.
		{slices.Concat(x(10), one(100)), slices.Concat(one(100), x(150)), 120, 100},
		{slices.Concat(x(10), one(100)), slices.Concat(one(100), x(150)), 80, 100},
		// It doesn't, but other keys do.
		{slices.Concat(one(10), x(50)), slices.Concat(one(100), x(150)), 120, 10},
		{slices.Concat(x(10), one(100)), slices.Concat(x(150), one(200)), 80, 200},
		{slices.Concat(x(10), one(100)), slices.Concat(one(60), x(150)), 80, 10},
	} {
		_, p := made(t, 20, 20)
		first, second := leaf(t, p, c.left...), leaf(t, p, c.right...)
		hangs(t, p, 0, fork(t, p, first, btree.Pair{Key: c.middle, Val: uint64(second)}))
		is(t, "Del", btree.Del(p, 0, c.key), api.ErrBad)
	}
	// A fork's first key is the one between it and the fork beside it.
	_, p := made(t, 200, 200)
	high(t, p, 21, 21)
	_, room, e := p.Read(44)
	is(t, "Read", e, api.OK)
	is(t, "Write", p.Write(44, 3, room[:6]+low(100000, 8)+room[14:]), api.OK)
	is(t, "Del", btree.Del(p, 0, 0), api.ErrBad)
}

// struck makes a tree, of which three bytes or numbers are others.
func struck(t *testing.T, p *pager.Pager, rolls []byte) {
	t.Helper()
	n := p.Pages()
	for i := range 3 {
		r := rolls[6*i:]
		no := 1 + int(r[0])%(n-1)
		kind, room, e := p.Read(no)
		is(t, "Read", e, api.OK)
		raw := []byte(room)
		at := 2 + (int(r[1])+256*int(r[2]))%484
		switch r[3] % 6 {
		case 0: // a byte
			raw[at] ^= r[4]
		case 1: // a page below a fork
			if kind == 3 {
				copy(raw[2+12*(int(r[1])%20):], low(uint64(r[4])%uint64(n+1), 4))
			}
		case 2: // a key of a leaf
			if kind == 2 {
				copy(raw[2+16*(int(r[1])%15):], low(uint64(r[4])+256*uint64(r[5]), 8))
			}
		case 3: // a key of a fork
			if kind == 3 {
				copy(raw[6+12*(int(r[1])%20):], low(uint64(r[4])+256*uint64(r[5]), 8))
			}
		case 4: // all of another page
			k, other, e := p.Read(1 + int(r[4])%(n-1))
			is(t, "Read", e, api.OK)
			kind, raw = k, []byte(other)
		default: // fewer pairs
			count, head, size := int(r[4])%20, 2, 16
			if kind == 3 {
				head, size = 6, 12
			}
			if count < int(raw[0]) {
				raw[0] = byte(count)
				clear(raw[head+size*count:])
			}
		}
		if kind != 255 {
			is(t, "Write", p.Write(no, kind, string(raw)), api.OK)
		}
	}
}

func TestCallsOnWhatIsNoTree(t *testing.T) {
	met := map[api.Errno]int{}
	for seed := range uint64(1000) {
		_, p := made(t, 120, 120)
		rolls := stir(seed, 18+4*60)
		if seed%2 == 0 {
			high(t, p, 21, 22)
		} else {
			shaped(t, p, 15, 16, 15, 20, 30)
		}
		struck(t, p, rolls)
		for i := range 60 {
			r := rolls[18+4*i:]
			key := uint64(int(r[0])%2*100000 + int(r[1])%25*1000 + int(r[2])%30)
			if seed%2 == 1 {
				key = uint64(int(r[1])%5*1000 + int(r[2])%60)
			}
			met[calls(t, p, key, r[3])]++
		}
		// Whatever was done, these end, and tell the same pages.
		l, e := btree.All(p, 0)
		nos, again := btree.Pages(p, 0)
		n, _ := btree.Deep(p, 0)
		if e != again || e != api.OK && (len(l) > 0 || len(nos) > 0) || e == api.OK && (n > len(nos) || len(l) < 15*(len(nos)-1)/2) {
			t.Fatalf("seed %d: %d pairs, %d pages, %d deep, %d, %d", seed, len(l), len(nos), n, e, again)
		}
		if e == api.OK {
			holds(t, p, 0, l)
		}
	}
	for _, e := range []api.Errno{api.OK, api.ErrNone, api.ErrBad, api.ErrArg} {
		if met[e] < 20 {
			t.Errorf("the error %d was met %d times", e, met[e])
		}
	}
}

// calls puts a key, or deletes it, and fails the test where a Get doesn't tell so.
func calls(t *testing.T, p *pager.Pager, key uint64, roll byte) api.Errno {
	t.Helper()
	if roll%3 == 0 {
		e := btree.Put(p, 0, key, uint64(roll))
		if e == api.OK {
			gets(t, p, 0, btree.Pair{Key: key, Val: uint64(roll)})
		}
		return e
	}
	before, found := btree.Get(p, 0, key)
	e := btree.Del(p, 0, key)
	switch {
	case e == api.OK:
		getsNot(t, p, 0, key, api.ErrNone)
	case found != e && (found != api.OK || e == api.ErrNone):
		t.Fatalf("Get = %d, %d, and then Del = %d", before, found, e)
	}
	return e
}
