package wal

import (
	"bytes"

	"manciple/api"
	"manciple/disk"
	"manciple/num"
)

// header is what a log's header says.
type header struct {
	stamp uint64
	area  uint8
	base  uint64
	check uint64
}

const (
	headers      = 2 // sectors in which headers stand, by turns
	greatestBase = 1 << 63
)

// image is its sector.
func (h header) image() []byte {
	b := make([]byte, api.Sector)
	copy(b, num.Put(h.stamp, 8))
	b[8] = h.area
	copy(b[9:], num.Put(h.base, 8))
	copy(b[17:], num.Put(h.check, 8))
	copy(b[api.Sector-8:], num.Put(h.stamp, 8))
	return b
}

// headerOf is the header that a sector is; false: it does not count.
func headerOf(b []byte) (header, bool) {
	if len(b) != api.Sector {
		return header{}, false
	}
	h := header{
		stamp: num.Get(b[:8]),
		area:  b[8],
		base:  num.Get(b[9:17]),
		check: num.Get(b[17:25]),
	}
	// no other byte than its own may stand there
	ok := h.stamp != 0 && h.area <= 1 && h.base >= 1 && h.base <= greatestBase && bytes.Equal(b, h.image())
	if !ok {
		return header{}, false
	}
	return h, true
}

// newest is the header of a device that counts, and its sector; false: there is none.
func newest(d *disk.Dev) (header, int, bool) {
	var best header
	at := -1
	for sector := range headers {
		b, _ := d.Read(api.FileLog, sector)
		h, ok := headerOf(b)
		if ok && (at < 0 || h.stamp > best.stamp) {
			best, at = h, sector
		}
	}
	return best, at, at >= 0
}

// head writes the log's header to the sector that has not the last one.
func (l *Log) head() {
	l.stamp++
	l.sector = 1 - l.sector
	l.dev.Write(api.FileLog, l.sector, l.image())
	l.dev.Sync(api.FileLog)
}
