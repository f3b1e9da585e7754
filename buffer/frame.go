package buffer

import "annals/api"

// none is the page of an empty frame.
const none = -1

type sector [api.SectorSize]byte

// frame is room for a page. An empty frame's page is never pinned or changed.
type frame struct {
	page    int
	data    sector
	pins    int
	used    bool
	changed bool
	mark    int64
}

func (f *frame) pin() {
	f.pins++
	f.used = true
}

// stays: is the page passed over by the hand? One that was used is spared this time alone.
func (f *frame) stays() bool {
	if f.pins > 0 {
		return true
	}
	used := f.used
	f.used = false
	return used
}
