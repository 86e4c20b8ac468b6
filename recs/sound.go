package recs

import (
	"croft/api"
	"croft/btree"
	"croft/slot"
	"croft/word"
)

// What the pager tells on pages of its own: the page 0 is in use always, and has
// the first free one behind how many are in use.
const (
	kindFree = 255
	pageHead = 0
	usedSize = 4
)

// Sound tells whether all pages are as they should be.
func (r *Recs) Sound() api.Errno {
	if r == nil {
		return api.ErrArg
	}
	switch e := r.attempt(r.sound); e {
	case api.OK, api.ErrDown:
		return e
	default:
		// A page that isn't in use, or can't be read, is one that isn't as it
		// should be.
		return api.ErrBad
	}
}

// sound gives up, unless all pages are as they should be.
func (r *Recs) sound() {
	s := survey{r, map[int]int{}, map[int][]slot.Slot{}}
	last := r.root(rootLast)
	nos, e := btree.Pages(r.pager, rootDirectory)
	need(e)
	s.meet(nos...)
	for _, x := range r.directory() {
		expect(0 < x.Key && x.Key <= last)
		s.follow(placeOf(x.Val))
	}
	s.leftOver()
	s.goFree()
	expect(len(s.met) == r.pager.Pages()-1)
}

// survey is what was met of the pages.
type survey struct {
	recs  *Recs
	met   map[int]int         // how often each page was, by their numbers
	slots map[int][]slot.Slot // of the slot pages, without the records that were led to
}

// meet notes that pages are used for something: each may be for one thing only.
func (s survey) meet(nos ...int) {
	for _, no := range nos {
		s.met[no]++
		expect(s.met[no] == 1)
	}
}

// follow takes out the record at a place to which a number leads: the next one
// that leads there finds none.
func (s survey) follow(at place) {
	l, known := s.slots[at.page]
	if !known {
		l = s.open(at.page)
	}
	expect(at.slot < len(l) && l[at.slot].Used)
	s.meet(s.recs.read(l[at.slot].Rec).pages...)
	l[at.slot] = slot.Slot{}
}

// open answers the slots of a page that wasn't met so far.
func (s survey) open(no int) []slot.Slot {
	l, e := slot.Read(s.recs.room(no, kindSlots))
	expect(e == api.OK)
	s.meet(no)
	s.slots[no] = l
	return l
}

// leftOver gives up, if a slot has a record to which no number leads.
func (s survey) leftOver() {
	for _, l := range s.slots {
		for _, x := range l {
			expect(!x.Used)
		}
	}
}

// goFree meets all pages that are free.
func (s survey) goFree() {
	_, room, e := s.recs.pager.Read(pageHead)
	need(e)
	next, _ := word.Get(room, usedSize, pageSize)
	for next != 0 {
		no := int(next)
		room = s.recs.room(no, kindFree)
		expect(isBlank(room[pageSize:]))
		s.meet(no)
		next, _ = word.Get(room, 0, pageSize)
	}
}
