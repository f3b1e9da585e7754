package heap

import (
	"annals/api"
	"annals/codec"
	"annals/page"
	"annals/trail"
)

// How a version lies on its page: numbers ahead of its data.
const (
	numberSize = 8
	endAt      = numberSize
	headSize   = 2 * numberSize
)

// head is the transactions that added and ended a version.
type head struct {
	begin, end int64
}

// headOf: a record's head. What is too short for one is nobody's: such a record never comes from this package, but a crash under a heap that goes on may bring it back from an older page.
func headOf(record []byte) head {
	if len(record) < headSize {
		return head{}
	}
	return head{
		begin: int64(codec.Get(record[:endAt])),
		end:   int64(codec.Get(record[endAt:headSize])),
	}
}

func headsOf(p *page.Page) []head {
	heads := make([]head, p.Count())
	for slot := range heads {
		record, _ := p.Get(slot)
		heads[slot] = headOf(record)
	}
	return heads
}

func number(n int64) []byte { return codec.Put(nil, uint64(n), numberSize) }

// recordOf: a new version, which nobody has ended.
func recordOf(txn int64, data []byte) []byte {
	return append(append(number(txn), number(0)...), data...)
}

// taken: how many bytes of a page a version with data of a size uses, with the byte of the record's length.
func taken(size int) int { return 1 + headSize + size }

// redo does an Add or an End to its page, whose mark is the entry's then: could it be done?
func redo(p *page.Page, e trail.Entry, mark int64) bool {
	p.SetMark(mark)
	if e.Kind == trail.Add {
		slot, bad := p.Add(recordOf(e.Txn, e.Data))
		return bad == api.OK && slot == e.Slot
	}
	return p.Set(e.Slot, endAt, number(e.Txn)) == api.OK
}
