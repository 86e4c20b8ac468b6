package pager

import (
	"slices"
	"strings"

	"croft/api"
	"croft/redo"
	"croft/word"
)

// Commit makes what was changed count for good.
func (p *Pager) Commit() api.Errno {
	switch {
	case p == nil:
		return api.ErrArg
	case p.failed:
		return api.ErrState
	}
	changed := p.changed()
	switch {
	case len(changed) == 0:
		return api.OK
	case len(changed) > api.MaxTxn:
		return api.ErrBig
	}
	if e := p.enter(changed); e != api.OK {
		return e
	}
	for _, s := range changed {
		p.logged[s.no] = s
	}
	p.pool.Clean()
	return api.OK
}

// changed answers the pages of the transaction under way, by rising numbers.
func (p *Pager) changed() []sheet {
	var out []sheet
	for _, no := range p.pool.Dirty() {
		text, _ := p.pool.Get(no)
		out = append(out, framed(no, text))
	}
	return out
}

// enter puts these pages into the log; where they would fit just into an empty
// one, it is emptied ahead of that.
func (p *Pager) enter(changed []sheet) api.Errno {
	pages := make([]string, len(changed))
	for i, s := range changed {
		pages[i] = s.bytes()
	}
	e := p.add(pages)
	if e == api.ErrLog && sectorsOf(pages) <= p.at.log {
		if e = p.empty(); e == api.OK {
			e = p.add(pages)
		}
	}
	return p.told(e)
}

// sectorsOf is how many sectors a transaction of these pages takes.
func sectorsOf(pages []string) int { return 1 + len(pages)*redo.Per }

// add puts these pages into the log as it is.
func (p *Pager) add(pages []string) api.Errno {
	if sectorsOf(pages) <= p.log.Left() {
		if e := p.prepare(sectorsOf(pages)); e != api.OK {
			return e
		}
	}
	return p.log.Append(pages)
}

// prepare makes the log ready for a transaction of so many sectors: no sector in
// which a mark is looked for ends with the number that is looked for there. What
// stands there is left by pages and by crashes, and may be anything.
func (p *Pager) prepare(sectors int) api.Errno {
	end := marks + p.at.log
	at := end - p.log.Left()
	// A mark that is torn ends as its sector did: with its number there it could
	// be a mark all the same, of another text.
	e := p.unmark(at, p.log.Next())
	if behind := at + sectors; e == api.OK && behind < end {
		// What is no transaction must not be found behind this one, either.
		e = p.unmark(behind, p.log.Next()+1)
	}
	return e
}

// unmark makes a sector end with another number, if it ends with that one.
func (p *Pager) unmark(at int, seq uint64) api.Errno {
	s, e := p.at.disk.Read(at)
	rest, found := strings.CutSuffix(s, word.Put(seq, txnSize))
	if e != api.OK || !found {
		return e
	}
	// Wherever this is torn, it ends with another number, or is what stood there.
	other := rest + word.Put(^seq, txnSize)
	return p.at.write(func(to put) { to(at, other) })
}

// told answers an error of the disk, or of the log, and keeps in mind that the
// power went: behind that it can't be known what is on the disk.
func (p *Pager) told(e api.Errno) api.Errno {
	if e == api.ErrDown {
		p.failed = true
	}
	return e
}

// Abort makes what was changed as it was.
func (p *Pager) Abort() {
	if p != nil {
		p.pool.Drop()
	}
}

// Checkpoint writes pages to their places, and lets the log begin anew.
func (p *Pager) Checkpoint() api.Errno {
	switch {
	case p == nil:
		return api.ErrArg
	case p.failed, p.Dirty() > 0:
		return api.ErrState
	}
	return p.told(p.empty())
}

// empty does what Checkpoint does, whether a transaction is under way or not.
func (p *Pager) empty() api.Errno {
	settle := func(to put) {
		for _, s := range p.inLog() {
			p.at.page(s)(to)
		}
	}
	if e := p.at.write(settle, p.at.mark(p.seq+1, p.log.Next())); e != api.OK {
		return e
	}
	p.seq++
	clear(p.logged)
	return p.log.Restart()
}

// inLog answers the pages that count by the log, by rising numbers.
func (p *Pager) inLog() []sheet {
	var out []sheet
	for _, s := range p.logged {
		out = append(out, s)
	}
	slices.SortFunc(out, func(a, b sheet) int { return a.no - b.no })
	return out
}
