package pager

import (
	"slices"

	"croft/api"
	"croft/redo"
)

// Commit makes what was changed count for good.
func (p *Pager) Commit() api.Errno {
	switch {
	case p == nil:
		return api.ErrArg
	case p.failed:
		return api.ErrState
	}
	changed := p.changed()
	switch {
	case len(changed) == 0:
		return api.OK
	case len(changed) > api.MaxTxn:
		return api.ErrBig
	}
	if e := p.enter(changed); e != api.OK {
		return e
	}
	for _, s := range changed {
		p.logged[s.no] = s
	}
	p.pool.Clean()
	return api.OK
}

// changed answers the pages of the transaction under way, by rising numbers.
func (p *Pager) changed() []sheet {
	var out []sheet
	for _, no := range p.pool.Dirty() {
		text, _ := p.pool.Get(no)
		out = append(out, framed(no, text))
	}
	return out
}

// enter puts these pages into the log; where they would fit just into an empty
// one, it is emptied ahead of that.
func (p *Pager) enter(changed []sheet) api.Errno {
	pages := make([]string, len(changed))
	for i, s := range changed {
		pages[i] = s.bytes()
	}
	e := p.log.Append(pages)
	if e == api.ErrLog && 1+len(pages)*redo.Per <= p.at.log {
		if e = p.empty(); e == api.OK {
			e = p.log.Append(pages)
		}
	}
	return p.told(e)
}

// told answers an error of the disk, or of the log, and keeps in mind that the
// power went: behind that it can't be known what is on the disk.
func (p *Pager) told(e api.Errno) api.Errno {
	if e == api.ErrDown {
		p.failed = true
	}
	return e
}

// Abort makes what was changed as it was.
func (p *Pager) Abort() {
	if p != nil {
		p.pool.Drop()
	}
}

// Checkpoint writes pages to their places, and lets the log begin anew.
func (p *Pager) Checkpoint() api.Errno {
	switch {
	case p == nil:
		return api.ErrArg
	case p.failed, p.Dirty() > 0:
		return api.ErrState
	}
	return p.told(p.empty())
}

// empty does what Checkpoint does, whether a transaction is under way or not.
func (p *Pager) empty() api.Errno {
	settle := func(to put) {
		for _, s := range p.inLog() {
			p.at.page(s)(to)
		}
	}
	if e := p.at.write(settle, p.at.mark(p.seq+1, p.log.Next())); e != api.OK {
		return e
	}
	p.seq++
	clear(p.logged)
	return p.log.Restart()
}

// inLog answers the pages that count by the log, by rising numbers.
func (p *Pager) inLog() []sheet {
	var out []sheet
	for _, s := range p.logged {
		out = append(out, s)
	}
	slices.SortFunc(out, func(a, b sheet) int { return a.no - b.no })
	return out
}
