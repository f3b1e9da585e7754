// Package disk is a stand-in for a disk: sectors that are written, made durable, and lost in crashes.
package disk

import (
	"slices"

	"annals/api"
)

type sector [api.SectorSize]byte

// platter is what is durable.
type platter struct {
	sectors []sector
}

// write is a sector's new bytes on their way to the platter.
type write struct {
	place int
	data  sector
}

// Disk is sectors, and the writes that aren't durable yet.
type Disk struct {
	platter
	pending []write
}

// New: a disk of noughts.
func New(sectors int) (*Disk, api.Errno) {
	if sectors < 1 || sectors > api.MaxSectors {
		return nil, api.ErrRange
	}
	return &Disk{platter: platter{sectors: make([]sector, sectors)}}, api.OK
}

// Sectors: how many sectors there are.
func (p *platter) Sectors() int { return len(p.sectors) }

func (p *platter) has(n int) bool { return n >= 0 && n < len(p.sectors) }

// lay brings the first bytes of a write to its sector, whose other bytes stay.
func (p *platter) lay(w write, count int) {
	copy(p.sectors[w.place][:count], w.data[:count])
}

// Write: a sector has other bytes, which aren't durable yet.
func (d *Disk) Write(n int, b []byte) api.Errno {
	if !d.has(n) {
		return api.ErrRange
	}
	if len(b) != api.SectorSize {
		return api.ErrLength
	}
	d.pending = append(d.pending, write{place: n, data: sector(b)})
	return api.OK
}

// Read: the bytes that were last written to a sector.
func (d *Disk) Read(n int) ([]byte, api.Errno) {
	if !d.has(n) {
		return nil, api.ErrRange
	}
	s := d.latest(n) // an array, so a copy that nobody else has
	return s[:], api.OK
}

// latest looks from the end, since a later write hides those ahead of it.
func (d *Disk) latest(n int) sector {
	for i := len(d.pending) - 1; i >= 0; i-- {
		if d.pending[i].place == n {
			return d.pending[i].data
		}
	}
	return d.sectors[n]
}

// Pending: how many writes aren't durable yet.
func (d *Disk) Pending() int { return len(d.pending) }

// Sync makes all writes durable: how many they were.
func (d *Disk) Sync() int {
	count := len(d.pending)
	for _, w := range d.pending {
		d.lay(w, api.SectorSize)
	}
	d.pending = nil
	return count
}

// Crash: of the writes that aren't durable those are kept that are to be kept, in their order; one may be torn.
func (d *Disk) Crash(keep []bool, tear, at int) {
	at = min(max(at, 0), api.SectorSize)
	for i, w := range d.pending {
		switch {
		case i == tear:
			d.lay(w, at)
		case i < len(keep) && keep[i]:
			d.lay(w, api.SectorSize)
		}
	}
	d.pending = nil
}

// Fork: another disk with the same sectors and writes.
func (d *Disk) Fork() *Disk {
	return &Disk{
		platter: platter{sectors: slices.Clone(d.sectors)},
		pending: slices.Clone(d.pending),
	}
}
