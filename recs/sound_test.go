package recs_test

import (
	"maps"
	"math"
	"slices"
	"strconv"
	"strings"
	"testing"

	"croft/api"
	"croft/btree"
	"croft/disk"
	"croft/page"
	"croft/pager"
	"croft/recs"
	"croft/slot"
)

// Promise 14.2: Sound.

// stocked answers a pager with 60 records, in slots and on pages of their own,
// and with pages that are free, all of which stand at their places on the disk.
func stocked(t *testing.T) (*disk.Disk, *pager.Pager) {
	t.Helper()
	d, p := made(t, 200, 200)
	fills(t, p, 90, 3)
	is(t, "Checkpoint", p.Checkpoint(), api.OK)
	return d, p
}

// fills makes n records, and deletes one of each so many.
func fills(t *testing.T, p *pager.Pager, n, each uint64) {
	t.Helper()
	for id := uint64(1); id <= n; id++ {
		makes(t, p, text(id, int(id*id%7)*150), id)
		is(t, "Commit", p.Commit(), api.OK)
	}
	for id := uint64(2); id <= n; id += each {
		dels(t, p, id)
		is(t, "Commit", p.Commit(), api.OK)
	}
}

// laid answers the number of a new page.
func laid(t *testing.T, p *pager.Pager, kind int, room string) int {
	t.Helper()
	no, e := p.Alloc(kind)
	is(t, "Alloc", e, api.OK)
	wrote(t, p, no, kind, room)
	return no
}

// wrote makes a page another one.
func wrote(t *testing.T, p *pager.Pager, no, kind int, room string) {
	t.Helper()
	is(t, "Write", p.Write(no, kind, room), api.OK)
}

// roomOf answers a page's room.
func roomOf(t *testing.T, p *pager.Pager, no int) string {
	t.Helper()
	_, room, e := p.Read(no)
	is(t, "Read", e, api.OK)
	return room
}

// leads lets a number lead to a page and a slot.
func leads(t *testing.T, p *pager.Pager, id uint64, page, slot uint64) {
	t.Helper()
	is(t, "Put", btree.Put(p, 0, id, page*65536+slot), api.OK)
}

// cell puts something else into a record's slot.
func cell(t *testing.T, p *pager.Pager, at place, rec string) {
	t.Helper()
	room, e := slot.Set(roomOf(t, p, at.page), at.slot, rec)
	is(t, "Set", e, api.OK)
	wrote(t, p, at.page, 4, room)
}

// fault is something that isn't as it should be, which is done in a transaction.
type fault struct {
	what string
	do   func(t *testing.T, p *pager.Pager, s *state)
}

// longest answers the first of the records with the most pages.
func longest(s *state) uint64 {
	most := uint64(0)
	for id, own := range s.own {
		if len(own) > len(s.own[most]) || len(own) == len(s.own[most]) && id < most {
			most = id
		}
	}
	return most
}

// ownPage answers a page of that record: the last one at -1.
func ownPage(s *state, i int) int {
	own := s.own[longest(s)]
	return own[(i+len(own))%len(own)]
}

// longCell is what stands in the slot of a long record.
func longCell(size, first int) string {
	return "\x01" + low(uint64(size), 4) + low(uint64(first), 4)
}

// spread lays the pages of a long record, and answers the first one.
func spread(t *testing.T, p *pager.Pager, rec string) int {
	t.Helper()
	next := 0
	for _, part := range slices.Backward(slices.Collect(slices.Chunk([]byte(rec), 490))) {
		next = laid(t, p, 5, low(uint64(next), 4)+low(uint64(len(part)), 2)+string(part))
	}
	return next
}

// placeFaults are places that have no record.
func placeFaults() []fault {
	lead := func(page, slot uint64) func(*testing.T, *pager.Pager, *state) {
		return func(t *testing.T, p *pager.Pager, s *state) { leads(t, p, 1, page, slot) }
	}
	return []fault{
		{"on the page 0", lead(0, 0)},
		{"on a page that isn't in use", func(t *testing.T, p *pager.Pager, s *state) { leads(t, p, 1, uint64(p.Pages()), 0) }},
		{"on no page at all", lead(1<<48-1, 0)}, {"on no page that may be", lead(1<<31, 0)},
		{"on a page of the directory", func(t *testing.T, p *pager.Pager, s *state) { leads(t, p, 1, uint64(s.directory[0]), 0) }},
		{"on a long record's page", func(t *testing.T, p *pager.Pager, s *state) {
			leads(t, p, 1, uint64(ownPage(s, 0)), 0)
		}},
		{"on a free page", func(t *testing.T, p *pager.Pager, s *state) { leads(t, p, 1, uint64(s.free[0]), 0) }},
		{"in an empty slot", func(t *testing.T, p *pager.Pager, s *state) {
			at := s.places[1]
			room, e := slot.Del(roomOf(t, p, at.page), at.slot)
			is(t, "Del", e, api.OK)
			wrote(t, p, at.page, 4, room)
		}},
		{"in a slot that isn't", func(t *testing.T, p *pager.Pager, s *state) {
			leads(t, p, 1, uint64(s.places[1].page), uint64(len(s.shelves[s.places[1].page])))
		}},
		{"in the last slot that may be", func(t *testing.T, p *pager.Pager, s *state) {
			leads(t, p, 1, uint64(s.places[1].page), 65535)
		}},
		{"on a page of another kind", func(t *testing.T, p *pager.Pager, s *state) {
			wrote(t, p, s.places[1].page, 5, roomOf(t, p, s.places[1].page))
		}},
		{"on a page that is no room of slots", func(t *testing.T, p *pager.Pager, s *state) {
			room := []byte(roomOf(t, p, s.places[1].page))
			room[495]++
			wrote(t, p, s.places[1].page, 4, string(room))
		}},
	}
}

// cellFaults are slots with something that is no record.
func cellFaults() []fault {
	var out []fault
	for _, rec := range []string{"", "\x02", "\x02abc", "\xffabc", "\x01", "\x00" + text(1, 241), "\x00" + text(1, 300)} {
		out = append(out, fault{"with a cell of " + rec, func(t *testing.T, p *pager.Pager, s *state) {
			// The page has just this record, so that all of these go into it.
			no := laid(t, p, 4, "")
			room, _, e := slot.Add(slot.Empty(), rec)
			is(t, "Add", e, api.OK)
			wrote(t, p, no, 4, room)
			leads(t, p, 1, uint64(no), 0)
			room, e = slot.Del(roomOf(t, p, s.places[1].page), s.places[1].slot)
			is(t, "Del", e, api.OK)
			wrote(t, p, s.places[1].page, 4, room)
		}})
	}
	long := func(what string, rec func(size, first int) string) {
		out = append(out, fault{what, func(t *testing.T, p *pager.Pager, s *state) {
			id := longest(s)
			cell(t, p, s.places[id], rec(len(s.texts[id]), s.own[id][0]))
		}})
	}
	for _, size := range []int{1, 239, 240, 4097, 4098, 4410, 4411, 5000} {
		// The pages of these are right.
		out = append(out, fault{"of " + strconv.Itoa(size) + " bytes on pages of its own", func(t *testing.T, p *pager.Pager, s *state) {
			for _, no := range s.own[longest(s)] {
				is(t, "Free", p.Free(no), api.OK)
			}
			cell(t, p, s.places[longest(s)], longCell(size, spread(t, p, text(1, size))))
		}})
	}
	long("of a byte less", func(size, first int) string { return longCell(size, first)[:8] })
	long("with a byte behind", func(size, first int) string { return longCell(size, first) + "\x00" })
	long("without a sign", func(size, first int) string { return longCell(size, first)[1:] })
	long("of another sign", func(size, first int) string { return "\x02" + longCell(size, first)[1:] })
	long("too long by one", func(size, first int) string { return longCell(size+1, first) })
	long("too short by one", func(size, first int) string { return longCell(size-1, first) })
	long("too short by a page", func(size, first int) string { return longCell(size-490, first) })
	long("too long by a page", func(size, first int) string { return longCell(size+490, first) })
	long("as a short one", func(size, first int) string { return longCell(240, first) })
	long("of no bytes", func(size, first int) string { return longCell(0, first) })
	long("of more than any has", func(size, first int) string { return longCell(4097, first) })
	long("of 2^32 - 1 bytes", func(size, first int) string { return longCell(1<<32-1, first) })
	long("without a page", func(size, first int) string { return longCell(size, 0) })
	long("with a page that isn't", func(size, first int) string { return longCell(size, 1<<32-1) })
	return out
}

// chainFaults are a long record's pages that aren't as they should be.
func chainFaults() []fault {
	var out []fault
	part := func(what string, i int, change func(s *state, room []byte) int) {
		out = append(out, fault{what, func(t *testing.T, p *pager.Pager, s *state) {
			no := ownPage(s, i)
			room := []byte(roomOf(t, p, no))
			kind := change(s, room)
			wrote(t, p, no, kind, string(room))
		}})
	}
	next := func(what string, i int, to func(s *state) int) {
		part(what, i, func(s *state, room []byte) int {
			copy(room, low(uint64(to(s)), 4))
			return 5
		})
	}
	for _, i := range []int{0, -1} {
		for _, kind := range []int{2, 3, 4, 6, 254} {
			part("of another kind", i, func(s *state, room []byte) int { return kind })
		}
		next("that leads to itself", i, func(s *state) int { return ownPage(s, i) })
		next("that leads to a slot page", i, func(s *state) int { return s.places[1].page })
		next("that leads to a page that isn't in use", i, func(s *state) int { return 199 })
		next("that leads to no page", i, func(s *state) int { return 1<<32 - 1 })
		next("that leads to a free page", i, func(s *state) int { return s.free[0] })
		part("with no bytes", i, func(s *state, room []byte) int { room[4], room[5] = 0, 0; return 5 })
		part("with 491 bytes", i, func(s *state, room []byte) int { room[4], room[5] = 235, 1; return 5 })
		part("with 65535 bytes", i, func(s *state, room []byte) int { room[4], room[5] = 255, 255; return 5 })
		part("with a byte less", i, func(s *state, room []byte) int { room[4]--; return 5 })
	}
	part("with a byte behind", -1, func(s *state, room []byte) int { room[495] = 1; return 5 })
	part("with a byte right behind", -1, func(s *state, room []byte) int { room[6+number(string(room[4:]), 2)] = 1; return 5 })
	next("that is the last one too early", 0, func(s *state) int { return 0 })
	next("that leads back", -1, func(s *state) int { return ownPage(s, 0) })
	next("that leads to another record's", -1, func(s *state) int {
		others := maps.Clone(s.own)
		delete(others, longest(s))
		return others[slices.Min(slices.Collect(maps.Keys(others)))][0]
	})
	return out
}

// useFaults are pages and slots that are used for nothing, or more than once. Of
// these, records are read all the same.
func useFaults() []fault {
	return []fault{
		{"two numbers that lead to one slot", func(t *testing.T, p *pager.Pager, s *state) {
			at := s.places[4]
			room, e := slot.Del(roomOf(t, p, s.places[7].page), s.places[7].slot)
			is(t, "Del", e, api.OK)
			wrote(t, p, s.places[7].page, 4, room)
			leads(t, p, 7, uint64(at.page), uint64(at.slot))
		}},
		{"a number more that leads to a slot", func(t *testing.T, p *pager.Pager, s *state) {
			leads(t, p, 2, uint64(s.places[1].page), uint64(s.places[1].slot))
		}},
		{"a slot that isn't led to", func(t *testing.T, p *pager.Pager, s *state) {
			room, _, e := slot.Add(roomOf(t, p, int(s.fill)), "\x00")
			is(t, "Add", e, api.OK)
			wrote(t, p, int(s.fill), 4, room)
		}},
		{"a number that is gone", func(t *testing.T, p *pager.Pager, s *state) { is(t, "Del", btree.Del(p, 0, 1), api.OK) }},
		{"a slot page without slots", func(t *testing.T, p *pager.Pager, s *state) { laid(t, p, 4, slot.Empty()) }},
		{"a slot page without slots that records are put to", func(t *testing.T, p *pager.Pager, s *state) {
			is(t, "SetRoot", p.SetRoot(2, uint64(laid(t, p, 4, slot.Empty()))), api.OK)
		}},
		{"a slot page that isn't led to", func(t *testing.T, p *pager.Pager, s *state) {
			room, _, e := slot.Add(slot.Empty(), "\x00abc")
			is(t, "Add", e, api.OK)
			laid(t, p, 4, room)
		}},
		{"a page of no record", func(t *testing.T, p *pager.Pager, s *state) { laid(t, p, 5, low(0, 4)+low(300, 2)+text(1, 300)) }},
		{"a page of nothing", func(t *testing.T, p *pager.Pager, s *state) { laid(t, p, 6, "") }},
		{"a leaf more", func(t *testing.T, p *pager.Pager, s *state) { laid(t, p, 2, low(1, 2)+low(1, 16)) }},
		{"another directory", func(t *testing.T, p *pager.Pager, s *state) { is(t, "Put", btree.Put(p, 3, 1, 1), api.OK) }},
		{"a page of nothing behind all", func(t *testing.T, p *pager.Pager, s *state) {
			for n := p.Pages(); p.Pages() == n; {
				laid(t, p, 4, "")
			}
			for no := p.Pages() - 2; no > 0; no-- {
				if kind, _, _ := p.Read(no); kind == 4 && s.shelves[no] == nil {
					is(t, "Free", p.Free(no), api.OK)
				}
			}
		}},
		{"two records of the same pages", func(t *testing.T, p *pager.Pager, s *state) {
			id := longest(s)
			room, i, e := slot.Add(roomOf(t, p, int(s.fill)), longCell(len(s.texts[id]), s.own[id][0]))
			is(t, "Add", e, api.OK)
			wrote(t, p, int(s.fill), 4, room)
			leads(t, p, 2, s.fill, uint64(i))
		}},
		{"two records with the same last page", func(t *testing.T, p *pager.Pager, s *state) {
			id := longest(s)
			no := laid(t, p, 5, low(uint64(ownPage(s, -1)), 4)+low(490, 2)+text(1, 490))
			room, i, e := slot.Add(roomOf(t, p, int(s.fill)), longCell(490+(len(s.texts[id])-1)%490+1, no))
			is(t, "Add", e, api.OK)
			wrote(t, p, int(s.fill), 4, room)
			leads(t, p, 2, s.fill, uint64(i))
		}},
		{"a record of the number 0", func(t *testing.T, p *pager.Pager, s *state) {
			is(t, "Del", btree.Del(p, 0, 1), api.OK)
			leads(t, p, 0, uint64(s.places[1].page), uint64(s.places[1].slot))
		}},
		{"a number given last that is below a record's", func(t *testing.T, p *pager.Pager, s *state) {
			is(t, "SetRoot", p.SetRoot(1, 89-1), api.OK)
		}},
		{"no number given last", func(t *testing.T, p *pager.Pager, s *state) { is(t, "SetRoot", p.SetRoot(1, 0), api.OK) }},
	}
}

// treeFaults are directories that can't be gone through.
func treeFaults() []fault {
	root := func(n uint64) func(*testing.T, *pager.Pager, *state) {
		return func(t *testing.T, p *pager.Pager, s *state) { is(t, "SetRoot", p.SetRoot(0, n), api.OK) }
	}
	return []fault{
		{"none", root(0)}, {"a page that isn't in use", root(199)}, {"no page", root(1 << 31)}, {"no page either", root(math.MaxUint64)},
		{"a slot page", func(t *testing.T, p *pager.Pager, s *state) { root(s.fill)(t, p, s) }},
		{"a leaf that isn't the topmost page", func(t *testing.T, p *pager.Pager, s *state) {
			for _, no := range s.directory {
				if kind, _, _ := p.Read(no); kind == 2 {
					root(uint64(no))(t, p, s)
				}
			}
		}},
		{"a leaf of another kind", func(t *testing.T, p *pager.Pager, s *state) {
			wrote(t, p, s.directory[0], 9, roomOf(t, p, s.directory[0]))
		}},
		{"a leaf with too few", func(t *testing.T, p *pager.Pager, s *state) {
			for _, no := range s.directory {
				if kind, room, _ := p.Read(no); kind == 2 {
					wrote(t, p, no, 2, low(1, 2)+room[2:18])
				}
			}
		}},
	}
}

func TestWhatIsNotSound(t *testing.T) {
	_, p := stocked(t)
	s := sound(t, p)
	if len(s.directory) < 3 || len(s.free) < 3 || len(s.shelves) < 3 || len(s.own[longest(s)]) != 2 {
		t.Fatalf("%d pages of the directory, %d free ones, %d slot pages", len(s.directory), len(s.free), len(s.shelves))
	}
	for _, x := range slices.Concat(placeFaults(), cellFaults(), chainFaults(), useFaults(), treeFaults()) {
		x.do(t, p, s)
		if _, wrong := told(p); wrong == "" {
			t.Fatalf("%s: nothing is wrong", x.what)
		}
		unchanged(t, p, func() {
			if e := recs.On(p).Sound(); e != api.ErrBad {
				t.Errorf("%s: Sound = %d", x.what, e)
			}
		})
		p.Abort()
		is(t, "Sound", recs.On(p).Sound(), api.OK)
	}
}

func TestWhatIsSoundAllTheSame(t *testing.T) {
	_, p := stocked(t)
	s := sound(t, p)
	is(t, "SetRoot", p.SetRoot(1, 1<<40), api.OK)
	sound(t, p)
	is(t, "SetRoot", p.SetRoot(1, math.MaxUint64), api.OK)
	sound(t, p)
	is(t, "SetRoot", p.SetRoot(1, slices.Max(slices.Collect(maps.Keys(s.texts)))), api.OK)
	sound(t, p)
	for _, fill := range []int{0, s.places[1].page, s.places[4].page, int(s.fill)} {
		is(t, "SetRoot", p.SetRoot(2, uint64(fill)), api.OK)
		sound(t, p)
	}
	// Pages that were laid by hand.
	for _, size := range []int{241, 490, 491, 4096} {
		id := longest(s)
		for _, no := range s.own[id] {
			is(t, "Free", p.Free(no), api.OK)
		}
		cell(t, p, s.places[id], longCell(size, spread(t, p, text(1, size))))
		s = sound(t, p)
		gets(t, p, id, text(1, size))
	}
	for root := 3; root < 8; root++ {
		is(t, "SetRoot", p.SetRoot(root, 77), api.OK)
	}
	sound(t, p)
	// Free pages may be in any order.
	for range 3 {
		var nos []int
		for range 3 {
			nos = append(nos, laid(t, p, 9, "x"))
		}
		for _, no := range nos {
			is(t, "Free", p.Free(no), api.OK)
		}
		sound(t, p)
	}
	// A page that has just one slot left, a late one, is as it should be.
	_, p = made(t, 20, 20)
	for id := uint64(1); id <= 50; id++ {
		makes(t, p, "", id)
	}
	for id := uint64(1); id < 50; id++ {
		dels(t, p, id)
		sound(t, p)
	}
}

func TestRecordsThatAreSharedOut(t *testing.T) {
	// Without any record, and where one page has all.
	_, p := made(t, 20, 20)
	sound(t, p)
	is(t, "SetRoot", p.SetRoot(1, 5), api.OK)
	sound(t, p)
	laid(t, p, 4, "")
	is(t, "Sound", recs.On(p).Sound(), api.ErrBad)
	p.Abort()
	is(t, "Free", p.Free(laid(t, p, 4, "")), api.OK)
	sound(t, p)
}

// patched answers a pager on a copy of a disk, of which a page is another one.
func patched(t *testing.T, d *disk.Disk, no, kind int, room string) *pager.Pager {
	t.Helper()
	bytes, e := page.Pack(kind, no, room)
	is(t, "Pack", e, api.OK)
	at := 64 * (2 + logSize + 8*no)
	image := d.Image()
	other, e := disk.Load(image[:at] + bytes + image[at+512:])
	is(t, "Load", e, api.OK)
	return opened(t, other, 200)
}

func TestFreePagesThatAreNotSound(t *testing.T) {
	d, p := stocked(t)
	s := sound(t, p)
	n := len(s.free)
	if n < 3 {
		t.Fatalf("%d pages are free", n)
	}
	head := roomOf(t, p, 0)
	type spoilt struct {
		what     string
		no, kind int
		room     string
	}
	first := func(no int) string { return head[:4] + low(uint64(no), 4) + head[8:] }
	used := func(n int) string { return low(uint64(n), 4) + head[4:] }
	for _, x := range []spoilt{
		{"none", 0, 1, first(0)},
		{"one left out", 0, 1, first(s.free[1])},
		{"that begin with a slot page", 0, 1, first(s.places[1].page)},
		{"that begin with a page of the directory", 0, 1, first(s.directory[0])},
		{"that begin with a long record's page", 0, 1, first(ownPage(s, 0))},
		{"with a page more", 0, 1, used(p.Pages() + 1)},
		{"that end too early", s.free[0], 255, low(0, 4)},
		{"that lead to the first one again", s.free[n-1], 255, low(uint64(s.free[0]), 4)},
		{"that lead to themselves", s.free[0], 255, low(uint64(s.free[0]), 4)},
		{"one left out in the midst", s.free[0], 255, low(uint64(s.free[2]), 4)},
		{"that lead to a page that isn't in use", s.free[n-1], 255, low(199, 4)},
		{"that lead to no page", s.free[n-1], 255, low(1<<32-1, 4)},
		{"that lead to a slot page", s.free[n-1], 255, low(s.fill, 4)},
		{"that lead to a long record's page", s.free[n-1], 255, low(uint64(ownPage(s, 1)), 4)},
		{"with bytes behind", s.free[0], 255, low(uint64(s.free[1]), 4) + "\x01"},
		{"with a byte at the end", s.free[n-1], 255, noughts(495) + "\x01"},
		{"of another kind", s.free[1], 4, low(uint64(s.free[2]), 4)},
		{"of another kind, the last one", s.free[n-1], 254, ""},
	} {
		q := patched(t, d, x.no, x.kind, x.room)
		if _, wrong := told(q); wrong == "" {
			t.Fatalf("free pages %s: nothing is wrong", x.what)
		}
		if e := recs.On(q).Sound(); e != api.ErrBad {
			t.Errorf("free pages %s: Sound = %d", x.what, e)
		}
	}
	// The page of a record that is free as well.
	q := patched(t, d, ownPage(s, -1), 255, low(uint64(s.free[0]), 4))
	is(t, "Sound", recs.On(q).Sound(), api.ErrBad)
	q = patched(t, d, 0, 1, head)
	sound(t, q)
}

func TestEachPageThatCannotBeRead(t *testing.T) {
	d, p := stocked(t)
	image := d.Image()
	for no := 1; no < p.Pages(); no++ {
		raw := []byte(image)
		raw[64*(2+logSize+8*no)+no%512] ^= 1 << (no % 8)
		worse, e := disk.Load(string(raw))
		is(t, "Load", e, api.OK)
		if e := recs.On(opened(t, worse, 200)).Sound(); e != api.ErrBad {
			t.Errorf("the page %d can't be read: Sound = %d", no, e)
		}
	}
}

// What the other calls answer, where they come upon what isn't as it should be.

func TestCallsOnPlacesWithoutRecords(t *testing.T) {
	_, p := stocked(t)
	s := sound(t, p)
	for _, x := range slices.Concat(placeFaults(), cellFaults()[:7]) {
		x.do(t, p, s)
		want := api.ErrBad
		if strings.Contains(x.what, "isn't in use") || strings.Contains(x.what, "no page") {
			want = api.ErrArg // It is the pager's.
		}
		unchanged(t, p, func() {
			if rec, e := recs.On(p).Get(1); rec != "" || e != want {
				t.Errorf("%s: Get = %d bytes, %d", x.what, len(rec), e)
			}
			for _, n := range []int{0, 500} {
				if e := recs.On(p).Set(1, text(1, n)); e != want {
					t.Errorf("%s: Set = %d", x.what, e)
				}
			}
			if e := recs.On(p).Del(1); e != want {
				t.Errorf("%s: Del = %d", x.what, e)
			}
		})
		p.Abort()
	}
}

func TestCallsOnLongRecordsThatAreNone(t *testing.T) {
	_, p := stocked(t)
	s := sound(t, p)
	id := longest(s)
	for _, x := range slices.Concat(cellFaults()[7:], chainFaults()) {
		x.do(t, p, s)
		rec, e := recs.On(p).Get(id)
		if rec != "" || e != api.ErrBad && e != api.ErrArg {
			t.Errorf("%s: Get = %d bytes, %d", x.what, len(rec), e)
		}
		if e == api.ErrArg && !strings.Contains(x.what, "isn't") && !strings.Contains(x.what, "no page") {
			t.Errorf("%s: Get = %d", x.what, e)
		}
		is(t, "Set", recs.On(p).Set(id, "x"), e)
		is(t, "Del", recs.On(p).Del(id), e)
		p.Abort()
	}
}

func TestMakeOnPagesThatAreNone(t *testing.T) {
	_, p := stocked(t)
	s := sound(t, p)
	fill := func(no int, want api.Errno) {
		t.Helper()
		is(t, "SetRoot", p.SetRoot(2, uint64(no)), api.OK)
		makesNot(t, p, "x", want)
		p.Abort()
	}
	fill(s.directory[0], api.ErrBad)
	fill(ownPage(s, 0), api.ErrBad)
	fill(s.free[0], api.ErrBad)
	fill(199, api.ErrArg)
	fill(1<<40, api.ErrArg)
	fill(math.MaxInt, api.ErrArg)
	fill(-1, api.ErrArg)
	room := []byte(roomOf(t, p, int(s.fill)))
	room[495]++
	wrote(t, p, int(s.fill), 4, string(room))
	makesNot(t, p, "x", api.ErrBad)
	p.Abort()
	// The directory is none.
	is(t, "SetRoot", p.SetRoot(0, s.fill), api.OK)
	makesNot(t, p, "x", api.ErrBad)
	idsNot(t, p, api.ErrBad)
	refused(t, p, 1, api.ErrBad)
	p.Abort()
	sound(t, p)
}

// struck changes some of what stands on the pages.
func struck(t *testing.T, p *pager.Pager, rolls []byte) {
	t.Helper()
	for i := range 1 + int(rolls[0])%3 {
		r := rolls[1+6*i:]
		no := 1 + int(r[0])%(p.Pages()-1)
		kind, room, e := p.Read(no)
		is(t, "Read", e, api.OK)
		if kind == 255 {
			continue
		}
		raw := []byte(room)
		switch r[1] % 8 {
		case 0: // a byte anywhere
			raw[(int(r[2])+256*int(r[3]))%496] ^= r[4]
		case 1: // a byte ahead
			raw[int(r[2])%12] ^= 1 << (r[3] % 8)
		case 2: // a page's number
			at := []int{0, 2, 10, 18}[r[2]%4]
			copy(raw[at:], low(uint64(r[3])%uint64(p.Pages()+1), 4))
		case 3: // another kind
			kind = 2 + int(r[2])%4
		case 4: // all of another page
			k, other, e := p.Read(1 + int(r[2])%(p.Pages()-1))
			is(t, "Read", e, api.OK)
			if k != 255 {
				kind, raw = k, []byte(other)
			}
		case 5: // a root
			is(t, "SetRoot", p.SetRoot(int(r[2])%3, uint64(r[3])%uint64(p.Pages()+3)), api.OK)
		case 6: // a number leads elsewhere
			btree.Put(p, 0, uint64(r[2])%50, uint64(r[3])%uint64(p.Pages()+1)<<16+uint64(r[4]%8))
			continue
		default: // a slot is another one's
			if l, e := slot.Read(room); kind == 4 && e == api.OK && len(l) > 0 {
				x := l[int(r[2])%len(l)]
				l[int(r[3])%len(l)] = x
				if packed, e := slot.Pack(l); e == api.OK {
					raw = []byte(packed)
				}
			}
		}
		wrote(t, p, no, kind, string(raw))
	}
}

func TestCallsOnWhatIsNotSound(t *testing.T) {
	met := map[api.Errno]int{}
	still := 0
	_, p := made(t, 80, 80)
	fills(t, p, 45, 4)
	for seed := range uint64(4000) {
		p.Abort()
		rolls := stir(seed, 20+4*20)
		struck(t, p, rolls)
		s, wrong := told(p)
		want := api.OK
		if wrong != "" {
			want = api.ErrBad
		} else {
			still++
			for id, rec := range s.texts {
				gets(t, p, id, rec)
			}
		}
		if e := recs.On(p).Sound(); e != want {
			t.Fatalf("seed %d: Sound = %d, and %q is wrong", seed, e, wrong)
		}
		for i := range 20 {
			met[called(t, p, rolls[20+4*i:])]++
		}
		recs.On(p).Sound()
		recs.On(p).Ids()
	}
	if still < 100 || still > 3500 {
		t.Errorf("%d of 4000 are sound", still)
	}
	for _, e := range []api.Errno{api.OK, api.ErrNone, api.ErrBad, api.ErrArg, api.ErrFull} {
		if met[e] < 20 {
			t.Errorf("the error %d was met %d times", e, met[e])
		}
		delete(met, e)
	}
	for e, n := range met {
		t.Errorf("the error %d was met %d times", e, n)
	}
}

// called makes a call, and fails the test where a Get behind it doesn't tell so.
func called(t *testing.T, p *pager.Pager, r []byte) api.Errno {
	t.Helper()
	id, rec := uint64(r[0])%50, text(uint64(r[1]), int(r[2])*17%4097)
	if r[2]%2 == 0 {
		rec = rec[:len(rec)/20]
	}
	switch r[3] % 3 {
	case 0:
		n, e := recs.On(p).Make(rec)
		if (n == 0) != (e != api.OK) {
			t.Fatalf("Make = %d, %d", n, e)
		}
		if e == api.OK {
			gets(t, p, n, rec)
		}
		return e
	case 1:
		e := recs.On(p).Set(id, rec)
		if e == api.OK {
			gets(t, p, id, rec)
		}
		return e
	}
	_, found := recs.On(p).Get(id)
	e := recs.On(p).Del(id)
	if e == api.OK {
		getsNot(t, p, id, api.ErrNone)
	}
	if found == api.ErrNone && e != found {
		t.Fatalf("Get = %d, and then Del = %d", found, e)
	}
	return e
}
