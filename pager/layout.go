package pager

import (
	"strings"

	"croft/api"
	"croft/disk"
	"croft/mark"
	"croft/page"
	"croft/word"
)

// Where things stand on a disk: two sectors for marks, the log, pages.
const (
	marks    = 2                     // sectors for marks
	leastLog = 10                    // sectors of a log: a mark, and those of one page
	per      = api.Page / api.Sector // sectors of a page
)

// What a disk begins with.
const (
	firstMark = 1 // number of the first mark
	firstTxn  = 1 // number of the first transaction
)

// How long the numbers of a mark's text are.
const (
	txnSize = 8 // bytes of the number of the log's first transaction
	logSize = 4 // bytes of how many sectors the log has
)

// layout is a disk, and how many sectors its log has, which tells where all
// else stands.
type layout struct {
	disk *disk.Disk
	log  int
}

// isOn tells whether a log of so many sectors, and one page behind it, are on
// the disk.
func (l layout) isOn() bool {
	return leastLog <= l.log && l.log <= l.disk.Len()-marks-per
}

// most is for how many pages there is room behind the log.
func (l layout) most() int { return (l.disk.Len() - marks - l.log) / per }

// place is the first sector of a page.
func (l layout) place(no int) int { return marks + l.log + no*per }

// read answers the bytes that stand at a page's place.
func (l layout) read(no int) (string, api.Errno) {
	var out strings.Builder
	for i := range per {
		s, e := l.disk.Read(l.place(no) + i)
		if e != api.OK {
			return "", e
		}
		out.WriteString(s)
	}
	return out.String(), api.OK
}

// put takes sectors that are to be written, the first one at the number at.
type put func(at int, sectors ...string)

// write writes what each step puts, and flushes it ahead of the next step; it
// stops at the disk's first error, and answers it.
func (l layout) write(steps ...func(put)) api.Errno {
	e := api.OK
	do := func(call func() api.Errno) {
		if e == api.OK {
			e = call()
		}
	}
	for _, step := range steps {
		step(func(at int, sectors ...string) {
			for i, s := range sectors {
				do(func() api.Errno { return l.disk.Write(at+i, s) })
			}
		})
		do(l.disk.Flush)
	}
	return e
}

// page is the step that puts a page at its place.
func (l layout) page(s sheet) func(put) {
	return func(to put) { to(l.place(s.no), page.Cut(s.bytes())...) }
}

// mark is the step that puts the mark of a number; the log begins with the
// transaction first then.
func (l layout) mark(seq, first uint64) func(put) {
	// A text of so few bytes isn't too long for a mark.
	s, _ := mark.Put(seq, markText(first, uint64(l.log)))
	// The mark ahead of it stands in the other sector, and counts till this one
	// is there wholly.
	return func(to put) { to(int(seq%marks), s) }
}

// markText is the text of a mark, without the bytes 00 behind.
func markText(first, log uint64) string {
	return word.Put(first, txnSize) + word.Put(log, logSize)
}

// counting answers what the mark tells that counts: the layout, its number, and
// that of the log's first transaction; false, if there is no such mark, or not
// as much on the disk.
func counting(d *disk.Disk) (layout, uint64, uint64, bool) {
	// A sector that isn't there is read as nothing, which is no mark.
	a, _ := d.Read(0)
	b, _ := d.Read(1)
	seq, text, which := mark.Best(a, b)
	first, _ := word.Get(text, 0, txnSize)
	log, _ := word.Get(text, txnSize, logSize)
	rest := strings.TrimPrefix(text, markText(first, log))
	l := layout{d, int(log)}
	if which < 0 || seq == 0 || !isBlank(rest) || !l.isOn() {
		return layout{}, 0, 0, false
	}
	return l, seq, first, true
}

// isBlank tells whether there is nothing but bytes 00.
func isBlank(s string) bool { return strings.Trim(s, "\x00") == "" }

// Format makes a disk that has one page, 0, and an empty log of so many sectors;
// ErrArg, if it has no room for them.
func Format(d *disk.Disk, log int) api.Errno {
	l := layout{d, log}
	if d == nil || !l.isOn() {
		return api.ErrArg
	}
	blank := strings.Repeat("\x00", api.Sector)
	// An elder log's transactions go, wherever they stand: the new one may come
	// to their numbers, and end right ahead of one. None of the marks counts any
	// more by then.
	unmark := func(to put) { to(0, blank, blank) }
	fill := func(to put) {
		for i := range log {
			to(marks+i, blank)
		}
		l.page(head{used: 1}.sheet())(to)
	}
	return l.write(unmark, fill, l.mark(firstMark, firstTxn))
}
