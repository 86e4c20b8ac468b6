package recs

import (
	"strings"

	"croft/api"
	"croft/slot"
	"croft/word"
)

// The kinds of the records' pages.
const (
	kindSlots = 4 // records in slots
	kindLong  = 5 // a part of a long record
)

// How long the numbers are that stand in slots and on a long record's pages.
const (
	pageSize = 4 // a page's number
	textSize = 4 // how many bytes a long record has
	partSize = 2 // how many of these stand on a page
)

// How many bytes of a record stand where.
const (
	mostShort = 240                            // in its slot
	mostPart  = api.Room - pageSize - partSize // on one page of its own
)

// What a slot begins with.
const (
	signShort = "\x00" // the record stands behind it
	signLong  = "\x01" // its length does, and its first page
)

// slotBits are those of a place by which its slot is told.
const slotBits = 16

// place is where a record stands: its slot page, and the slot.
type place struct {
	page, slot int
}

// placeOf answers the place to which the directory leads by that number.
func placeOf(val uint64) place {
	return place{int(val >> slotBits), int(word.Cut(val, slotBits))}
}

// val is the number by which the directory leads to the place.
func (at place) val() uint64 { return uint64(at.page)<<slotBits + uint64(at.slot) }

// stored is a record as it stands.
type stored struct {
	text  string
	pages []int // its own ones
}

// room answers the room of a page, which is to be of that kind.
func (r *Recs) room(no, kind int) string {
	met, room, e := r.pager.Read(no)
	need(e)
	expect(met == kind)
	return room
}

// write makes a page another one.
func (r *Recs) write(no, kind int, room string) { need(r.pager.Write(no, kind, room)) }

// alloc answers the number of a new page.
func (r *Recs) alloc(kind int) int {
	no, e := r.pager.Alloc(kind)
	need(e)
	return no
}

// put puts what stands in a slot onto the page to which records are put, or, where
// it doesn't go there, onto a new one.
func (r *Recs) put(cell string) place {
	// A number that no int has is none of a page, either way.
	no := int(r.root(rootFill))
	room, i, e := "", 0, api.ErrFull
	if no != 0 {
		room, i, e = slot.Add(r.room(no, kindSlots), cell)
	}
	if e == api.ErrFull {
		no = r.alloc(kindSlots)
		r.setRoot(rootFill, uint64(no))
		room, i, e = slot.Add(slot.Empty(), cell)
	}
	expect(e == api.OK)
	r.write(no, kindSlots, room)
	return place{no, i}
}

// vacate empties a slot; a page without records is free then.
func (r *Recs) vacate(at place) {
	room, e := slot.Del(r.room(at.page, kindSlots), at.slot)
	expect(e == api.OK)
	if room != slot.Empty() {
		r.write(at.page, kindSlots, room)
		return
	}
	if r.root(rootFill) == uint64(at.page) {
		r.setRoot(rootFill, 0)
	}
	need(r.pager.Free(at.page))
}

// load answers the record that stands at a place.
func (r *Recs) load(at place) stored {
	cell, e := slot.Get(r.room(at.page, kindSlots), at.slot)
	expect(e == api.OK)
	return r.read(cell)
}

// read answers the record of what stands in its slot.
func (r *Recs) read(cell string) stored {
	if text, short := strings.CutPrefix(cell, signShort); short {
		expect(len(text) <= mostShort)
		return stored{text: text}
	}
	told, long := strings.CutPrefix(cell, signLong)
	expect(long && len(told) == textSize+pageSize)
	size, _ := word.Get(told, 0, textSize)
	first, _ := word.Get(told, textSize, pageSize)
	expect(mostShort < size && size <= api.MaxRec)
	return r.gather(int(size), int(first))
}

// gather answers the long record of so many bytes whose pages begin with that one.
// None of them is met twice: from it on no page would be the last one.
func (r *Recs) gather(size, first int) stored {
	var text strings.Builder
	var pages []int
	no := first
	for text.Len() < size {
		part, next := r.part(no, min(mostPart, size-text.Len()))
		text.WriteString(part)
		pages = append(pages, no)
		no = next
	}
	expect(no == 0)
	return stored{text.String(), pages}
}

// part answers the part of a long record on a page, which is to have so many
// bytes, and the next page.
func (r *Recs) part(no, size int) (string, int) {
	room := r.room(no, kindLong)
	next, _ := word.Get(room, 0, pageSize)
	told, _ := word.Get(room, pageSize, partSize)
	part, rest := room[pageSize+partSize:][:size], room[pageSize+partSize+size:]
	expect(told == uint64(size) && isBlank(rest))
	return part, int(next)
}

// isBlank tells whether there is nothing but bytes 00.
func isBlank(s string) bool { return strings.Trim(s, "\x00") == "" }

// cell answers what stands in a record's slot; a long one is put onto pages of its
// own.
func (r *Recs) cell(rec string) string {
	if len(rec) <= mostShort {
		return signShort + rec
	}
	first := r.spread(rec)
	return signLong + word.Put(uint64(len(rec)), textSize) + word.Put(uint64(first), pageSize)
}

// spread puts a record onto pages, the last one first, as each tells the next one,
// and answers which is the first.
func (r *Recs) spread(rec string) int {
	next := 0
	for end := len(rec); end > 0; {
		from := (end - 1) / mostPart * mostPart
		part := rec[from:end]
		no := r.alloc(kindLong)
		r.write(no, kindLong, word.Put(uint64(next), pageSize)+word.Put(uint64(len(part)), partSize)+part)
		next, end = no, from
	}
	return next
}

// free lets a record's own pages go.
func (r *Recs) free(s stored) {
	for _, no := range s.pages {
		need(r.pager.Free(no))
	}
}
