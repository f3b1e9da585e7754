package buffer

import "annals/disk"

// region is the sectors of a disk in which a pool's pages lie.
type region struct {
	disk  *disk.Disk
	first int
	count int
}

// Pages: how many pages there are.
func (r *region) Pages() int { return r.count }

func (r *region) has(page int) bool { return page >= 0 && page < r.count }

func (r *region) read(page int) sector {
	b, _ := r.disk.Read(r.first + page)
	return sector(b)
}

func (r *region) write(page int, data sector) { r.disk.Write(r.first+page, data[:]) }
