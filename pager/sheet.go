package pager

import (
	"strings"

	"croft/api"
	"croft/page"
	"croft/word"
)

// The kinds of pages that are the pager's own; those between are for whoever
// calls.
const (
	kindHead = 1   // of the page 0
	kindFree = 255 // of a page that is free
)

// What such pages have in their rooms.
const (
	countSize = 4 // bytes of a page's number, and of how many pages are in use
	rootSize  = 8 // bytes of a root
	roots     = 8 // how many roots there are
)

// sheet is a page: its number, its kind, and its room, of which bytes 00 at the
// end may be missing.
type sheet struct {
	no, kind int
	room     string
}

// full answers a room of its whole length.
func full(room string) string {
	return room + strings.Repeat("\x00", api.Room-len(room))
}

// bytes answers the page as it stands on a disk, or in the log.
func (s sheet) bytes() string {
	// A sheet's number, kind and room are such that nothing is refused.
	out, _ := page.Pack(s.kind, s.no, s.room)
	return out
}

// sheetOf answers the page of that number, of its bytes; Unpack's error.
func sheetOf(no int, bytes string) (sheet, api.Errno) {
	kind, room, e := page.Unpack(bytes, no)
	if e != api.OK {
		return sheet{}, e
	}
	return sheet{no, kind, room}, api.OK
}

// frame answers the text by which the pool holds the page: its kind in a byte,
// then its room, so that no sum is reckoned each time that it is read.
func (s sheet) frame() string { return string([]byte{byte(s.kind)}) + full(s.room) }

// framed answers the page that the pool holds by that text.
func framed(no int, text string) sheet { return sheet{no, int(text[0]), text[1:]} }

// freed is a free page, of which next is the next one.
func freed(no, next int) sheet {
	return sheet{no, kindFree, full(word.Put(uint64(next), countSize))}
}

// next answers the next free page behind that one; false, if this is no free
// page, where so many are in use.
func (s sheet) next(used int) (int, bool) {
	n, _ := word.Get(s.room, 0, countSize)
	next := int(n)
	if next >= used || s != freed(s.no, next) {
		return 0, false
	}
	return next, true
}

// head is what the page 0 tells.
type head struct {
	used  int // how many pages are in use
	free  int // the first free one, 0: none
	roots [roots]uint64
}

// sheet answers the page 0 that tells it.
func (h head) sheet() sheet {
	room := word.Put(uint64(h.used), countSize) + word.Put(uint64(h.free), countSize)
	for _, n := range h.roots {
		room += word.Put(n, rootSize)
	}
	return sheet{0, kindHead, full(room)}
}

// head answers what the page tells, as the page 0.
func (s sheet) head() head {
	used, _ := word.Get(s.room, 0, countSize)
	free, _ := word.Get(s.room, countSize, countSize)
	h := head{used: int(used), free: int(free)}
	for i := range h.roots {
		h.roots[i], _ = word.Get(s.room, 2*countSize+i*rootSize, rootSize)
	}
	return h
}

// isHead tells whether it is a page 0, where there is room for so many pages.
func (s sheet) isHead(most int) bool {
	h := s.head()
	return s == h.sheet() && 1 <= h.used && h.used <= most && h.free < h.used
}
