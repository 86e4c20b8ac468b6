package recs_test

import (
	"maps"
	"slices"
	"strings"
	"testing"

	"croft/api"
	"croft/disk"
	"croft/pager"
	"croft/recs"
)

// Promise 14.3: what was made is there, as it was set last, till it is deleted.

// player makes mixed calls on records, and on a map of what is to be there.
type player struct {
	t    *testing.T
	p    *pager.Pager
	m    map[uint64]string
	last uint64
	met  map[string]int
}

// plays answers one without records.
func plays(t *testing.T, p *pager.Pager) *player {
	return &player{t, p, map[uint64]string{}, 0, map[string]int{}}
}

// make makes a record, which is to stand where the chapter tells.
func (x *player) make(rec string) {
	x.t.Helper()
	to := planOf(sound(x.t, x.p))
	x.last++
	makes(x.t, x.p, rec, x.last)
	x.m[x.last] = rec
	to.sizes[x.last] = sizeOf(rec)
	to.put(x.last)
	to.met(x.t, sound(x.t, x.p))
}

// set sets a record that is there.
func (x *player) set(id uint64, rec string) {
	x.t.Helper()
	s := sound(x.t, x.p)
	to := planOf(s)
	sets(x.t, x.p, id, rec)
	x.m[id] = rec
	to.set(id, s.places[id].page, sizeOf(rec))
	now := sound(x.t, x.p)
	to.met(x.t, now)
	switch {
	case now.places[id] == s.places[id]:
		x.met["stays"]++
	case now.places[id].page == s.places[id].page:
		x.met["another slot"]++
	case now.fill == s.fill:
		x.met["the page of the root 2"]++
	default:
		x.met["a new page"]++
	}
}

// del deletes a record that is there.
func (x *player) del(id uint64) {
	x.t.Helper()
	s := sound(x.t, x.p)
	to := planOf(s)
	dels(x.t, x.p, id)
	delete(x.m, id)
	to.take(id, s.places[id].page)
	now := sound(x.t, x.p)
	to.met(x.t, now)
	if len(now.shelves) < len(s.shelves) {
		x.met["a page goes"]++
	}
	if now.fill != s.fill {
		x.met["the page of the root 2 goes"]++
	}
}

// some answers the number of a record, whichever it is.
func (x *player) some(roll int) uint64 {
	l := slices.Sorted(maps.Keys(x.m))
	return l[roll%len(l)]
}

// lengthOf answers how long a record is to be: mostly short, some of half a page,
// some long.
func lengthOf(r []byte) int {
	switch n := int(r[1]) + 256*int(r[2]); r[0] % 8 {
	case 0:
		return 0
	case 1, 2:
		return n % 20
	case 3, 4:
		return n % 241
	case 5:
		return 230 + n%20
	case 6:
		return n % 1000
	default:
		return n % 4097
	}
}

// step makes one call.
func (x *player) step(r []byte, growing bool) {
	x.t.Helper()
	limit := byte(5)
	if growing {
		limit = 2
	}
	rec := text(uint64(r[1])<<8+uint64(r[2]), lengthOf(r[3:]))
	switch {
	case len(x.m) == 0 || r[0]%10 >= limit+3:
		x.make(rec)
	case r[0]%10 < limit:
		x.del(x.some(int(r[1])))
	default:
		x.set(x.some(int(r[1])), rec)
	}
}

func TestMixedCalls(t *testing.T) {
	met := map[string]int{}
	for seed := range uint64(12) {
		_, p := made(t, 700, 700)
		x := plays(t, p)
		x.met = met
		rolls := stir(seed, 6*500)
		for i := range 500 {
			x.step(rolls[6*i:6*i+6], i/100%2 == 0)
			if i%10 == 0 {
				holds(t, p, x.m)
			}
		}
		for len(x.m) > 0 {
			x.del(x.some(int(rolls[len(x.m)])))
		}
		bare(t, p)
	}
	for _, how := range []string{"stays", "the page of the root 2", "a new page", "a page goes", "the page of the root 2 goes"} {
		if met[how] < 20 {
			t.Errorf("%s: %d times", how, met[how])
		}
	}
}

// bare fails the test unless there are no records, and all pages but 0 are free.
func bare(t *testing.T, p *pager.Pager) {
	t.Helper()
	s := sound(t, p)
	if len(s.texts) > 0 || len(s.free) != p.Pages()-1 {
		t.Fatalf("%d records, and %d of %d pages are free", len(s.texts), len(s.free), p.Pages()-1)
	}
	rooted(t, p, 0, 0)
	rooted(t, p, 2, 0)
	holds(t, p, map[uint64]string{})
}

func TestShortRecordsThatGrowAndShrink(t *testing.T) {
	met := map[string]int{}
	for seed := range uint64(8) {
		_, p := made(t, 200, 200)
		x := plays(t, p)
		x.met = met
		for range 160 {
			x.make("")
		}
		rolls := stir(seed, 3*300)
		for i := range 300 {
			r := rolls[3*i:]
			id := x.some(int(r[0]))
			if i < 140+int(seed) {
				x.del(id)
				continue
			}
			switch r[1] % 8 {
			case 0:
				// The last ones are in late slots.
				x.set(slices.Max(slices.Collect(maps.Keys(x.m))), text(seed, 100+int(r[2])%141))
			case 1:
				x.set(id, text(seed, int(r[2])%241))
			case 2:
				x.set(id, "")
			default:
				if len(x.m) > 5 {
					x.del(id)
				} else {
					x.make("")
				}
			}
		}
		holds(t, p, x.m)
	}
	for _, how := range []string{"another slot", "a new page", "the page of the root 2", "a page goes"} {
		if met[how] == 0 {
			t.Errorf("%s: %d times", how, met[how])
		}
	}
}

func TestAllAreDeletedInEachOrder(t *testing.T) {
	for _, n := range []int{1, 2, 7, 31, 130} {
		for order := range 4 {
			d, p := made(t, 700, 64)
			r := recs.On(p)
			var l []uint64
			for i := range n {
				id, e := r.Make(text(uint64(i), i*i*7%1500))
				is(t, "Make", e, api.OK)
				is(t, "Commit", p.Commit(), api.OK)
				l = append(l, id)
			}
			switch order {
			case 1:
				slices.Reverse(l)
			case 2:
				slices.SortFunc(l, func(a, b uint64) int { return int(a*37%131) - int(b*37%131) })
			case 3:
				slices.SortFunc(l, func(a, b uint64) int { return int(a%5) - int(b%5) })
			}
			for i, id := range l {
				is(t, "Del", r.Del(id), api.OK)
				is(t, "Commit", p.Commit(), api.OK)
				if i%20 == 0 {
					sound(t, p)
				}
			}
			bare(t, p)
			before := p.Pages()
			// What is made then stands on the pages that were let go.
			for i := range n {
				makes(t, p, text(uint64(i), i*i*7%1500), uint64(n+i+1))
				is(t, "Commit", p.Commit(), api.OK)
			}
			if p.Pages() != before {
				t.Errorf("%d pages are in use, not %d", p.Pages(), before)
			}
			sound(t, opened(t, d, 5))
		}
	}
}

func TestManyRecords(t *testing.T) {
	d, p := made(t, 1000, 64)
	r := recs.On(p)
	want := map[uint64]string{}
	for i := range uint64(5000) {
		rec := text(i, int(i*i%40))
		id, e := r.Make(rec)
		if id != i+1 || e != api.OK {
			t.Fatalf("Make = %d, %d", id, e)
		}
		want[id] = rec
		if i%5 == 0 {
			is(t, "Commit", p.Commit(), api.OK)
		}
	}
	is(t, "Commit", p.Commit(), api.OK)
	holds(t, p, want)
	p = opened(t, d, 9)
	holds(t, p, want)
	r = recs.On(p)
	for id := range want {
		if id%3 == 0 {
			is(t, "Del", r.Del(id), api.OK)
			is(t, "Commit", p.Commit(), api.OK)
			delete(want, id)
		}
	}
	holds(t, p, want)
}

// With transactions: what the pager tells of these.

// shuffle makes some calls on a copy of the player's records.
func (x *player) shuffle(rolls []byte, n int) *player {
	x.t.Helper()
	now := &player{x.t, x.p, copied(x.m), x.last, x.met}
	for i := range n {
		now.step(rolls[6*i:6*i+6], len(now.m) < 30)
	}
	return now
}

func TestTransactions(t *testing.T) {
	d, p := made(t, 300, 64)
	sure := plays(t, p)
	rolls := stir(5, 36*400)
	met := map[string]int{}
	for i := range 400 {
		r := rolls[36*i : 36*i+36]
		now := sure.shuffle(r, 1+int(r[35])%4)
		switch r[34] % 5 {
		case 0:
			p.Abort()
			met["aborted"]++
		case 1, 2:
			d.Fuse(int(r[33]) * 2 % (16*p.Dirty() + 3))
			e := now.p.Commit()
			var keep []bool
			for j := range d.Pending() {
				keep = append(keep, r[j%30]>>(j/30%8)&1 == 1)
			}
			d.Crash(keep, int(r[32])-100, int(r[31])%65)
			p = opened(t, d, 64)
			now.p, sure.p = p, p
			switch s := sound(t, p); {
			case e == api.OK:
				sure = now
				met["sure"]++
			case maps.Equal(s.texts, now.m) && s.last == now.last:
				sure = now
				met["there"]++
			default:
				met["gone"]++
			}
		case 3:
			is(t, "Commit", p.Commit(), api.OK)
			is(t, "Checkpoint", p.Checkpoint(), api.OK)
			sure = now
		default:
			is(t, "Commit", p.Commit(), api.OK)
			sure = now
		}
		holds(t, p, sure.m)
		rooted(t, p, 1, sure.last)
	}
	for _, how := range []string{"aborted", "sure", "gone"} {
		if met[how] < 20 {
			t.Errorf("%s: %d times", how, met[how])
		}
	}
}

func TestThePowerGoesAtEachCall(t *testing.T) {
	base, p := made(t, 100, 64)
	was := plays(t, p)
	for i := range 20 {
		was.make(text(uint64(i), i*i*5))
	}
	is(t, "Commit", p.Commit(), api.OK)
	is(t, "Checkpoint", p.Checkpoint(), api.OK)
	image := base.Image()
	for calls, done := 0, false; !done; calls++ {
		for torn := range 3 {
			d, e := disk.Load(image)
			is(t, "Load", e, api.OK)
			now := &player{t, opened(t, d, 64), copied(was.m), was.last, was.met}
			now.make(text(77, 1200))
			now.set(3, text(78, 700))
			now.del(20)
			now.del(5)
			d.Fuse(calls)
			e = now.p.Commit()
			done = e == api.OK
			if !done {
				is(t, "Commit", e, api.ErrDown)
			}
			d.Crash([]bool{true, true, false, true}, d.Pending()-1-torn, 9*torn)
			p := opened(t, d, 64)
			want := was.m
			if done || maps.Equal(sound(t, p).texts, now.m) {
				want = now.m
			}
			holds(t, p, want)
		}
	}
}

func TestTheSameCallsLeaveTheSame(t *testing.T) {
	var tales []string
	for range 3 {
		_, p := made(t, 300, 300)
		x := plays(t, p)
		rolls := stir(77, 6*200)
		for i := range 200 {
			x.step(rolls[6*i:6*i+6], i < 150)
		}
		tales = append(tales, tale(t, p))
	}
	if tales[0] != tales[1] || tales[0] != tales[2] || strings.Trim(tales[0], "\x00") == "" {
		t.Error("the same calls left other pages")
	}
}
