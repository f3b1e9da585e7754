package heap

import (
	"annals/api"
	"annals/page"
	"annals/trail"
	"annals/wal"
)

// history is what a log says, and the pages to which it comes.
type history struct {
	entries []trail.Entry
	marks   []int64
	pages   []*page.Page
}

func historyOf(records []wal.Record, pages int) (*history, api.Errno) {
	past := &history{}
	for range pages {
		past.pages = append(past.pages, page.New())
	}
	for _, r := range records {
		e, bad := trail.Decode(r.Data)
		if bad != api.OK || !past.redo(e, r.Mark) {
			return nil, api.ErrForm
		}
		past.entries = append(past.entries, e)
		past.marks = append(past.marks, r.Mark)
	}
	return past, api.OK
}

func (past *history) redo(e trail.Entry, mark int64) bool {
	if e.Kind == trail.Commit {
		return true
	}
	return e.Page < len(past.pages) && redo(past.pages[e.Page], e, mark)
}
