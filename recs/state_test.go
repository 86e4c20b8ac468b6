package recs_test

import (
	"maps"
	"slices"
	"strings"
	"testing"

	"croft/api"
	"croft/btree"
	"croft/pager"
	"croft/recs"
	"croft/slot"
)

// What the records are, read from the pages without the program.

// place is a slot page and a slot.
type place struct {
	page, slot int
}

// next is a slot of the same page, so many on.
func (x place) next(n int) place { return place{x.page, x.slot + n} }

// state is what stands on a pager's pages.
type state struct {
	last, fill uint64
	texts      map[uint64]string
	places     map[uint64]place
	shelves    map[int][]uint64 // of each slot page, whose records its slots have, 0: none's
	own        map[uint64][]int // the pages of each long record
	directory  []int
	free       []int
}

// told answers what stands on a pager's pages, and what is wrong with it, if
// something is: what the chapter lists for Sound.
func told(p *pager.Pager) (*state, string) {
	s := &state{texts: map[uint64]string{}, places: map[uint64]place{}, shelves: map[int][]uint64{}, own: map[uint64][]int{}}
	s.last, _ = p.Root(1)
	s.fill, _ = p.Root(2)
	l, e := btree.All(p, 0)
	if e != api.OK {
		return nil, "the directory can't be gone through"
	}
	s.directory, _ = btree.Pages(p, 0)
	rooms := map[int][]slot.Slot{}
	for _, x := range l {
		if x.Key == 0 {
			return nil, "a record has the number 0"
		}
		at := place{int(x.Val / 65536), int(x.Val % 65536)}
		s.places[x.Key] = at
		if _, ok := rooms[at.page]; !ok {
			kind, room, e := p.Read(at.page)
			slots, wrong := slot.Read(room)
			if kind != 4 || e != api.OK || wrong != api.OK {
				return nil, "a place is on no slot page"
			}
			rooms[at.page] = slots
			s.shelves[at.page] = make([]uint64, len(slots))
		}
		if at.slot >= len(rooms[at.page]) || !rooms[at.page][at.slot].Used {
			return nil, "a place has no record"
		}
		if s.shelves[at.page][at.slot] != 0 {
			return nil, "a slot is led to twice"
		}
		s.shelves[at.page][at.slot] = x.Key
		rec, own, ok := record(p, rooms[at.page][at.slot].Rec)
		if !ok {
			return nil, "a record can't be read"
		}
		s.texts[x.Key] = rec
		if len(own) > 0 {
			s.own[x.Key] = own
		}
		if x.Key > s.last {
			return nil, "the number given last is below a record's"
		}
	}
	for no, slots := range rooms {
		for i, x := range slots {
			if x.Used && s.shelves[no][i] == 0 {
				return nil, "a slot isn't led to"
			}
		}
	}
	return s, s.uses(p)
}

// uses answers what is wrong with how the pages are used, each for one thing.
func (s *state) uses(p *pager.Pager) string {
	_, room, _ := p.Read(0)
	for no := int(number(room[4:], 4)); no > 0; {
		kind, room, e := p.Read(no)
		if kind != 255 || e != api.OK || room[4:] != noughts(492) || slices.Contains(s.free, no) {
			return "the free pages are none"
		}
		s.free = append(s.free, no)
		no = int(number(room, 4))
	}
	used := slices.Concat(s.directory, s.free, slices.Collect(maps.Keys(s.shelves)))
	for _, own := range s.own {
		used = append(used, own...)
	}
	slices.Sort(used)
	for i, no := range used {
		if no != i+1 {
			return "a page is used for nothing, or one more than once"
		}
	}
	if len(used) != p.Pages()-1 {
		return "the last pages are used for nothing"
	}
	return ""
}

// record answers the record of what stands in a slot, and its own pages.
func record(p *pager.Pager, cell string) (string, []int, bool) {
	if len(cell) >= 1 && cell[0] == 0 {
		return cell[1:], nil, len(cell) <= 241
	}
	if len(cell) != 9 || cell[0] != 1 {
		return "", nil, false
	}
	size, no := int(number(cell[1:], 4)), int(number(cell[5:], 4))
	out := ""
	var own []int
	for no != 0 && len(own) < 10 {
		kind, room, e := p.Read(no)
		if kind != 5 || e != api.OK {
			return "", nil, false
		}
		own = append(own, no)
		next, n := int(number(room, 4)), int(number(room[4:], 2))
		if n < 1 || n > 490 || next != 0 && n != 490 || strings.Trim(room[6+n:], "\x00") != "" {
			return "", nil, false
		}
		out += room[6 : 6+n]
		no = next
	}
	return out, own, no == 0 && len(out) == size && size > 240 && size <= 4096
}

// sound fails the test unless the records are sound, by what stands on the pages
// and by what Sound answers, and answers what stands there.
func sound(t *testing.T, p *pager.Pager) *state {
	t.Helper()
	s, wrong := told(p)
	if wrong != "" {
		t.Fatal(wrong)
	}
	is(t, "Sound", recs.On(p).Sound(), api.OK)
	return s
}

// copied answers the same records.
func copied(m map[uint64]string) map[uint64]string { return maps.Clone(m) }

// holds fails the test unless there are just these records, by what stands on the
// pages and by what the calls answer.
func holds(t *testing.T, p *pager.Pager, want map[uint64]string) {
	t.Helper()
	unchanged(t, p, func() {
		s := sound(t, p)
		if !maps.Equal(s.texts, want) {
			t.Fatalf("there are %d records, not these %d", len(s.texts), len(want))
		}
		for id, rec := range want {
			gets(t, p, id, rec)
		}
		ids(t, p, slices.Sorted(maps.Keys(want))...)
		getsNot(t, p, s.last+1, api.ErrNone)
	})
}

// Where records stand, told without the program: what goes into which slot.

// plan is where records are to stand: on slot pages that have the numbers which
// the program gave them, but for one that is new, and has 0.
type plan struct {
	fill    int
	shelves map[int][]uint64
	sizes   map[uint64]int // how many bytes each has in its slot
}

// planOf answers where records stand.
func planOf(s *state) *plan {
	x := &plan{int(s.fill), map[int][]uint64{}, map[uint64]int{}}
	for no, shelf := range s.shelves {
		x.shelves[no] = slices.Clone(shelf)
	}
	for id, rec := range s.texts {
		x.sizes[id] = sizeOf(rec)
	}
	return x
}

// sizeOf is how many bytes a record has in its slot.
func sizeOf(rec string) int {
	if len(rec) > 240 {
		return 9
	}
	return 1 + len(rec)
}

// goes tells whether these records go onto one page.
func (x *plan) goes(shelf []uint64) bool {
	n := 2 + 2*len(shelf)
	for _, id := range shelf {
		n += x.sizes[id]
	}
	return n <= 496
}

// put puts a record where it is to stand.
func (x *plan) put(id uint64) {
	shelf := slices.Clone(x.shelves[x.fill])
	i := slices.Index(shelf, 0)
	if i < 0 {
		i = len(shelf)
		shelf = append(shelf, 0)
	}
	shelf[i] = id
	if x.fill != 0 && x.goes(shelf) {
		x.shelves[x.fill] = shelf
		return
	}
	x.fill = 0
	x.shelves[0] = []uint64{id}
}

// take takes a record out, which stands on that page.
func (x *plan) take(id uint64, no int) {
	shelf := x.shelves[no]
	shelf[slices.Index(shelf, id)] = 0
	for len(shelf) > 0 && shelf[len(shelf)-1] == 0 {
		shelf = shelf[:len(shelf)-1]
	}
	x.shelves[no] = shelf
	if len(shelf) > 0 {
		return
	}
	delete(x.shelves, no)
	if x.fill == no {
		x.fill = 0
	}
}

// set gives a record, which stands on that page, another size.
func (x *plan) set(id uint64, no, size int) {
	was := x.sizes[id]
	x.sizes[id] = size
	if x.goes(x.shelves[no]) {
		return
	}
	x.sizes[id] = was
	x.take(id, no)
	x.sizes[id] = size
	x.put(id)
}

// met fails the test unless records stand as they are to.
func (x *plan) met(t *testing.T, s *state) {
	t.Helper()
	if fresh, ok := x.shelves[0]; ok {
		// What number a new page has is the program's to say.
		x.fill = int(s.fill)
		delete(x.shelves, 0)
		if _, elder := x.shelves[x.fill]; elder {
			t.Fatal("a record isn't on a new page")
		}
		x.shelves[x.fill] = fresh
	}
	if x.fill != int(s.fill) {
		t.Fatalf("the root 2 is %d, not %d", s.fill, x.fill)
	}
	if !maps.EqualFunc(x.shelves, s.shelves, slices.Equal[[]uint64]) {
		t.Fatalf("records stand at %v, not %v", s.shelves, x.shelves)
	}
}
