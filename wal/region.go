package wal

import (
	"annals/api"
	"annals/disk"
)

// region is the sectors of a disk in which a log lies.
type region struct {
	disk  *disk.Disk
	first int
	count int
}

func (r *region) size() int { return r.count * api.SectorSize }

// read: the bytes of all the sectors.
func (r *region) read() []byte {
	var out []byte
	for i := range r.count {
		b, _ := r.disk.Read(r.first + i)
		out = append(out, b...)
	}
	return out
}

func (r *region) write(i int, b []byte) { r.disk.Write(r.first+i, b) }

// sectorStart: where the sector begins in which a place lies.
func sectorStart(at int) int { return at - at%api.SectorSize }
