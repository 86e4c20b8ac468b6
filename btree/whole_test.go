package btree_test

import (
	"cmp"
	"math"
	"slices"
	"strings"
	"testing"

	"croft/api"
	"croft/btree"
	"croft/pager"
)

// What a tree is, read from its pages without the program.

// sorted answers pairs by rising keys.
func sorted(l []btree.Pair) []btree.Pair {
	l = slices.Clone(l)
	slices.SortFunc(l, func(a, b btree.Pair) int { return cmp.Compare(a.Key, b.Key) })
	return l
}

// reader reads a tree, and fails the test where it isn't as the chapter tells.
type reader struct {
	t     *testing.T
	p     *pager.Pager
	pairs []btree.Pair
	pages []int
	deep  int // of the leaves
}

// span is which keys may stand below a page: from least on, and, if there is a
// bound, up to that, without it.
type span struct {
	least, bound uint64
	bounded      bool
}

// has tells whether a key is in the span.
func (s span) has(key uint64) bool { return key >= s.least && (!s.bounded || key < s.bound) }

// page reads the page no, which stands so deep.
func (r *reader) page(no, deep int, s span) {
	r.t.Helper()
	kind, room, e := r.p.Read(no)
	is(r.t, "Read", e, api.OK)
	if no == 0 || deep > 16 || slices.Contains(r.pages, no) || (kind != 2 && kind != 3) {
		r.t.Fatalf("the page %d of the kind %d stands %d deep", no, kind, deep)
	}
	r.pages = append(r.pages, no)
	count, at := int(number(room, 2)), 2
	least, most, size := 15, 30, 8
	if kind == 3 {
		least, most, size, at = 20, 40, 4, 6
	}
	if deep == 1 {
		least = 1
	}
	if count < least || count > most {
		r.t.Fatalf("the page %d of the kind %d has %d pairs", no, kind, count)
	}
	var l []btree.Pair
	for i := range count {
		x := btree.Pair{Key: number(room[at:], 8), Val: number(room[at+8:], size)}
		if !s.has(x.Key) || i > 0 && x.Key <= l[i-1].Key {
			r.t.Fatalf("the page %d has the key %d", no, x.Key)
		}
		l = append(l, x)
		at += 8 + size
	}
	if room[at:] != noughts(496-at) {
		r.t.Fatalf("the page %d has more behind", no)
	}
	if kind == 2 {
		if r.deep > 0 && r.deep != deep {
			r.t.Fatalf("leaves stand %d and %d deep", r.deep, deep)
		}
		r.deep = deep
		r.pairs = append(r.pairs, l...)
		return
	}
	r.page(int(number(room[2:], 4)), deep+1, span{s.least, l[0].Key, true})
	for i, x := range l {
		under := span{x.Key, s.bound, s.bounded}
		if i+1 < count {
			under = span{x.Key, l[i+1].Key, true}
		}
		r.page(int(x.Val), deep+1, under)
	}
}

// reads answers a tree as its pages tell it.
func reads(t *testing.T, p *pager.Pager, root int) *reader {
	t.Helper()
	r := &reader{t: t, p: p}
	n, e := p.Root(root)
	is(t, "Root", e, api.OK)
	if n > 0 {
		r.page(int(n), 1, span{})
	}
	slices.Sort(r.pages)
	return r
}

// holds fails the test unless a tree is as the chapter tells, has just these
// pairs, and the calls tell so.
func holds(t *testing.T, p *pager.Pager, root int, want []btree.Pair) {
	t.Helper()
	r := reads(t, p, root)
	if !slices.Equal(r.pairs, want) {
		t.Fatalf("there are %d pairs, not these %d", len(r.pairs), len(want))
	}
	most := 16
	switch n := len(want); {
	case n == 0:
		most = 0
	case n < 2*15:
		most = 1
	case n < 2*21*15:
		most = 2
	}
	if r.deep > most {
		t.Fatalf("%d pairs stand %d deep", len(want), r.deep)
	}
	all(t, p, root, want)
	pages(t, p, root, r.pages)
	deep(t, p, root, r.deep)
}

// free fails the test unless each page but 0 is one of these, or free, and met
// from the first free one on.
func free(t *testing.T, p *pager.Pager, trees ...int) {
	t.Helper()
	var used []int
	for _, root := range trees {
		used = append(used, reads(t, p, root).pages...)
	}
	_, room, e := p.Read(0)
	is(t, "Read", e, api.OK)
	for no := int(number(room[4:], 4)); no > 0; {
		used = append(used, no)
		kind, room, e := p.Read(no)
		if kind != 255 || e != api.OK {
			t.Fatalf("the free page %d is of the kind %d, %d", no, kind, e)
		}
		no = int(number(room, 4))
	}
	slices.Sort(used)
	for i, no := range used {
		if no != i+1 {
			t.Fatalf("the page %d is used for nothing, or one more than once", i+1)
		}
	}
	if len(used) != p.Pages()-1 {
		t.Fatalf("%d pages of %d are used", len(used), p.Pages()-1)
	}
}

// Promise 13.4: what is put and not deleted is there.

// player makes mixed calls on a tree and on a map, and holds them against each
// other.
type player struct {
	t    *testing.T
	p    *pager.Pager
	root int
	m    map[uint64]uint64
}

// want are the pairs that are to be there.
func (x *player) want() []btree.Pair {
	var out []btree.Pair
	for k, v := range x.m {
		out = append(out, btree.Pair{Key: k, Val: v})
	}
	return sorted(out)
}

// put puts a key.
func (x *player) put(key, val uint64) {
	x.t.Helper()
	puts(x.t, x.p, x.root, btree.Pair{Key: key, Val: val})
	x.m[key] = val
	gets(x.t, x.p, x.root, btree.Pair{Key: key, Val: val})
}

// del deletes a key, whether it is there or not.
func (x *player) del(key uint64) {
	x.t.Helper()
	want := api.OK
	if _, there := x.m[key]; !there {
		want = api.ErrNone
	}
	is(x.t, "Del", btree.Del(x.p, x.root, key), want)
	delete(x.m, key)
	getsNot(x.t, x.p, x.root, key, api.ErrNone)
}

// holds fails the test unless the tree is as the map is.
func (x *player) holds() {
	x.t.Helper()
	holds(x.t, x.p, x.root, x.want())
	free(x.t, x.p, x.root)
}

// empty deletes all.
func (x *player) empty(order []uint64) {
	x.t.Helper()
	for i, key := range order {
		x.del(key)
		if i%97 == 0 {
			x.holds()
		}
	}
	x.holds()
	bare(x.t, x.p, x.root)
}

// orders are rows of the numbers below n, each of them once.
func orders(n int) [][]uint64 {
	var up, mixed, halves []uint64
	for i := range n {
		up = append(up, uint64(i))
		mixed = append(mixed, uint64(i*7919%n))
		if i%2 == 0 {
			halves = append(halves, uint64(i/2))
		} else {
			halves = append(halves, uint64(n-1-i/2))
		}
	}
	down := slices.Clone(up)
	slices.Reverse(down)
	inward := slices.Clone(halves)
	slices.Reverse(inward)
	return [][]uint64{up, down, mixed, halves, inward}
}

func TestPutAllAndDelAllInEachOrder(t *testing.T) {
	for _, n := range []int{29, 30, 31, 100, 629, 630, 1300} {
		for i, in := range orders(n) {
			for j, out := range orders(n) {
				if n > 100 && (i+2*j)%5 > 1 {
					continue
				}
				_, p := made(t, 400, 400)
				x := &player{t, p, 0, map[uint64]uint64{}}
				for k, key := range in {
					x.put(key, key*key)
					if n <= 100 || k%97 == 0 {
						x.holds()
					}
				}
				x.holds()
				x.empty(out)
			}
		}
	}
}

func TestFourPagesDeep(t *testing.T) {
	_, p := made(t, 8000, 8000)
	x := &player{t, p, 0, map[uint64]uint64{}}
	var keys []uint64
	for i := range uint64(14000) {
		key := i * 0x1e3779b97f4a7
		keys = append(keys, key)
		x.put(key, i)
		if i%20 == 0 && len(keys) < 14000 {
			is(t, "Commit", p.Commit(), api.OK)
		}
	}
	deep(t, p, 0, 4)
	x.holds()
	is(t, "Commit", p.Commit(), api.OK)
	for i, key := range keys {
		x.del(key)
		if i%10 == 0 {
			is(t, "Commit", p.Commit(), api.OK)
		}
		if i%1000 == 0 {
			x.holds()
		}
	}
	x.holds()
	bare(t, p, 0)
}

func TestMixedCalls(t *testing.T) {
	deepest := 0
	for seed := range uint64(20) {
		_, p := made(t, 300, 300)
		x := &player{t, p, int(seed % 8), map[uint64]uint64{}}
		keys := []int{40, 70, 200, 4000}[seed%4]
		steps := []int{1000, 1000, 2000, 12000}[seed%4]
		rolls := stir(seed, 4*steps)
		for i := range steps {
			r := rolls[4*i : 4*i+4]
			key := uint64(int(r[1])+256*int(r[2])) % uint64(keys)
			if seed%3 == 0 {
				key = ^(key << 50)
			}
			// More is put than deleted for a while, then less, and so on.
			put := 5
			if i/(steps/5)%2 == 1 {
				put = 2
			}
			if int(r[0])%7 < put {
				x.put(key, uint64(r[3])<<56+uint64(i))
			} else {
				x.del(key)
			}
			if keys <= 70 || i%100 == 0 {
				x.holds()
			}
			n, _ := btree.Deep(p, x.root)
			deepest = max(deepest, n)
		}
		x.holds()
		var rest []uint64
		for _, pair := range x.want() {
			rest = append(rest, pair.Key)
		}
		x.empty(rest)
	}
	if deepest < 3 {
		t.Errorf("no tree was more than %d deep", deepest)
	}
}

func TestTreesStandApart(t *testing.T) {
	_, p := made(t, 300, 300)
	var trees []*player
	for root := range 8 {
		trees = append(trees, &player{t, p, root, map[uint64]uint64{}})
	}
	rolls := stir(3, 3*4000)
	for i := range 4000 {
		r := rolls[3*i : 3*i+3]
		x := trees[r[0]%8]
		key := uint64(r[1])
		if (r[2]%3 > 0) == (i < 2500) {
			x.put(key, uint64(i))
		} else {
			x.del(key)
		}
		if i%100 > 0 {
			continue
		}
		for _, y := range trees {
			holds(t, p, y.root, y.want())
		}
		free(t, p, 0, 1, 2, 3, 4, 5, 6, 7)
	}
	for _, x := range trees {
		for key := range uint64(256) {
			x.del(key)
		}
	}
	free(t, p)
}

// With transactions: what the pager tells of these.

func TestTransactions(t *testing.T) {
	d, p := made(t, 300, 64)
	sure := &player{t, p, 2, map[uint64]uint64{}}
	rolls := stir(9, 4*3000)
	met := map[string]int{}
	for i := range 300 {
		now := &player{t, sure.p, 2, map[uint64]uint64{}}
		for k, v := range sure.m {
			now.m[k] = v
		}
		for j := range 10 {
			r := rolls[4*(10*i+j):]
			key := uint64(r[0]) + 256*uint64(r[1]%4)
			if r[2]%4 < 3 {
				now.put(key, uint64(i))
			} else {
				now.del(key)
			}
		}
		switch rolls[4*10*i+3] % 4 {
		case 0:
			now.p.Abort()
			met["aborted"]++
		case 1:
			d.Fuse(int(rolls[4*10*i+7]))
			e := now.p.Commit()
			d.Crash(nil, -1, 0)
			now.p = opened(t, d, 64)
			sure.p = now.p
			if e == api.OK {
				sure = now
				met["sure"]++
			} else {
				met["gone"]++
			}
		default:
			is(t, "Commit", now.p.Commit(), api.OK)
			sure = now
		}
		sure.holds()
	}
	for _, how := range []string{"aborted", "sure", "gone"} {
		if met[how] < 5 {
			t.Errorf("%s: %d times", how, met[how])
		}
	}
}

func TestOneLeafIsAllThatIsChanged(t *testing.T) {
	// A Put or Del by which no page gets too many or too few leaves all others.
	_, p := made(t, 100, 100)
	for i := range uint64(400) {
		puts(t, p, 0, btree.Pair{Key: i*i%400<<8 + i, Val: i})
	}
	l := reads(t, p, 0).pairs
	is(t, "Commit", p.Commit(), api.OK)
	puts(t, p, 0, btree.Pair{Key: l[7].Key, Val: 1})
	if p.Dirty() != 1 {
		t.Errorf("%d pages are dirty", p.Dirty())
	}
	p.Abort()
	all(t, p, 0, l)
}

// The rules that hold everywhere: what is handed out.

func TestAnswersShareNoMemory(t *testing.T) {
	for _, n := range []int{1, 20, 30, 31, 500} {
		_, p := made(t, 100, 100)
		l := pairs(1, 3, n)
		for _, x := range l {
			puts(t, p, 0, x)
		}
		a, _ := btree.All(p, 0)
		b, _ := btree.All(p, 0)
		c, _ := btree.Pages(p, 0)
		d, _ := btree.Pages(p, 0)
		want := slices.Clone(d)
		// Spare room is no one else's, either.
		a, c = a[:cap(a)], c[:cap(c)]
		for i := range a {
			a[i] = btree.Pair{Key: math.MaxUint64}
		}
		for i := range c {
			c[i] = -1
		}
		if !slices.Equal(b, l) || !slices.Equal(d, want) {
			t.Fatal("two answers share memory")
		}
		holds(t, p, 0, l)
	}
}

func TestTheSameCallsAnswerTheSame(t *testing.T) {
	tales := []string{}
	for range 3 {
		_, p := made(t, 300, 300)
		rolls := stir(77, 3*3000)
		var told strings.Builder
		for i := range 3000 {
			r := rolls[3*i:]
			key := uint64(r[0]) + 256*uint64(r[1]%3)
			if r[2]%3 > 0 {
				told.WriteByte(byte(btree.Put(p, 0, key, key)))
			} else {
				told.WriteByte(byte(btree.Del(p, 0, key)))
			}
		}
		tales = append(tales, told.String()+tale(t, p))
	}
	if tales[0] != tales[1] || tales[0] != tales[2] {
		t.Error("the same calls left other pages")
	}
}
