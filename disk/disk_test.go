package disk_test

import (
	"bytes"
	"math"
	"testing"

	"manciple/api"
	"manciple/disk"
)

// of is a sector of one byte, again and again.
func of(b byte) []byte { return bytes.Repeat([]byte{b}, api.Sector) }

func read(t *testing.T, d *disk.Dev, file uint8, sector int, want []byte) {
	t.Helper()
	if b, err := d.Read(file, sector); err != api.OK || !bytes.Equal(b, want) {
		t.Errorf("Read(%d, %d): %x, %v", file, sector, b, err)
	}
}

func image(t *testing.T, d *disk.Dev, file uint8, sector int, want []byte) {
	t.Helper()
	if b := d.Image(file)[sector]; !bytes.Equal(b, want) {
		t.Errorf("Image(%d) of sector %d: %x", file, sector, b)
	}
}

func TestNew(t *testing.T) {
	for _, c := range [][2]int{{-1, 0}, {0, -1}, {4097, 0}, {0, 4097}, {math.MaxInt, 1}, {1, math.MinInt}} {
		if disk.New(c[0], c[1]) != nil {
			t.Errorf("New(%d, %d)", c[0], c[1])
		}
	}
	for _, c := range [][2]int{{0, 0}, {3, 5}, {4096, 4096}} {
		d := disk.New(c[0], c[1])
		if d == nil || d.Size(0) != c[0] || d.Size(1) != c[1] || d.Size(2) != 0 || d.Size(255) != 0 {
			t.Fatalf("sizes of New(%d, %d)", c[0], c[1])
		}
		if len(d.Image(0)) != c[0] || len(d.Image(1)) != c[1] || len(d.Image(2)) != 0 || d.Halted() {
			t.Errorf("images of New(%d, %d)", c[0], c[1])
		}
		for i := range c[0] {
			read(t, d, 0, i, of(0))
		}
	}
}

func TestOpen(t *testing.T) {
	if disk.Open([][]byte{of(1)[:127]}, nil) != nil || disk.Open(nil, [][]byte{of(1), append(of(1), 1)}) != nil || disk.Open([][]byte{nil}, nil) != nil {
		t.Error("Open of a list that is no sector")
	}
	if disk.Open(make([][]byte, 4097), nil) != nil {
		t.Error("Open of too many")
	}
	many := make([][]byte, 4097)
	for i := range many {
		many[i] = of(1)
	}
	if disk.Open(nil, many) != nil || disk.Open(many[1:], many[1:]) == nil {
		t.Error("Open of many")
	}
	a := of(7)
	d := disk.Open([][]byte{a, of(8)}, nil)
	a[0] = 0
	read(t, d, 0, 0, of(7))
	read(t, d, 0, 1, of(8))
	image(t, d, 0, 1, of(8))
	if d.Size(0) != 2 || d.Size(1) != 0 || d.Waits(0, 0) != 0 {
		t.Error("Open")
	}
	d.Crash(nil)
	image(t, d, 0, 0, of(7))
}

func TestWriteReadSync(t *testing.T) {
	d := disk.New(4, 2)
	for _, c := range []struct {
		file   uint8
		sector int
		data   []byte
		want   api.Errno
	}{
		{2, 0, of(1), api.ErrDiskNone}, {0, 4, of(1), api.ErrDiskNone}, {0, -1, of(1), api.ErrDiskNone}, {1, 2, nil, api.ErrDiskNone},
		{0, 0, of(1)[:127], api.ErrArg}, {1, 1, append(of(1), 1), api.ErrArg}, {0, 0, nil, api.ErrArg},
	} {
		if err := d.Write(c.file, c.sector, c.data); err != c.want {
			t.Errorf("Write(%d, %d) of %d bytes: %v", c.file, c.sector, len(c.data), err)
		}
	}
	for _, c := range [][2]int{{2, 0}, {0, 4}, {0, -1}, {1, 2}} {
		if b, err := d.Read(uint8(c[0]), c[1]); len(b) != 0 || err != api.ErrDiskNone {
			t.Errorf("Read(%d, %d)", c[0], c[1])
		}
		if d.Waits(uint8(c[0]), c[1]) != 0 {
			t.Errorf("Waits(%d, %d)", c[0], c[1])
		}
	}
	a := of(1)
	d.Write(0, 3, a)
	a[5] = 9
	read(t, d, 0, 3, of(1))
	d.Write(0, 3, of(2))
	d.Write(1, 1, of(3))
	read(t, d, 0, 3, of(2))
	image(t, d, 0, 3, of(0))
	if d.Waits(0, 3) != 2 || d.Waits(0, 2) != 0 || d.Waits(1, 1) != 1 {
		t.Error("Waits")
	}
	d.Sync(2)
	if d.Waits(0, 3) != 2 {
		t.Error("Sync of no file")
	}
	d.Sync(0)
	image(t, d, 0, 3, of(2))
	image(t, d, 1, 1, of(0))
	if d.Waits(0, 3) != 0 || d.Waits(1, 1) != 1 {
		t.Error("Waits behind Sync")
	}
	b, _ := d.Read(0, 3)
	b[0] = 9
	d.Image(0)[3][1] = 9
	read(t, d, 0, 3, of(2))
	d.Crash([]api.Fate{{File: 0, Sector: 3, Keep: 5, Torn: 128}})
	read(t, d, 0, 3, of(2))
	read(t, d, 1, 1, of(0))
	image(t, d, 1, 1, of(0))
}

func TestCrash(t *testing.T) {
	mix := func(n int, front, rest byte) []byte { return append(of(front)[:n], of(rest)[n:]...) }
	for _, c := range []struct {
		fates []api.Fate
		want  []byte
	}{
		{nil, of(9)},
		{[]api.Fate{{Sector: 3, Keep: 1, Torn: 2}}, mix(2, 2, 1)},
		{[]api.Fate{{Sector: 3, Keep: 2}}, of(2)},
		{[]api.Fate{{Sector: 3, Keep: 3, Torn: 7}}, of(3)},
		{[]api.Fate{{Sector: 3, Keep: 99, Torn: 7}}, of(3)},
		{[]api.Fate{{Sector: 3, Keep: math.MaxInt, Torn: math.MaxInt}}, of(3)},
		{[]api.Fate{{Sector: 3, Keep: -1, Torn: 5}}, mix(5, 1, 9)},
		{[]api.Fate{{Sector: 3, Keep: math.MinInt, Torn: 127}}, mix(127, 1, 9)},
		{[]api.Fate{{Sector: 3, Torn: 128}}, of(1)},
		{[]api.Fate{{Sector: 3, Torn: 129}}, of(1)},
		{[]api.Fate{{Sector: 3, Keep: 1, Torn: -1}}, of(1)},
		{[]api.Fate{{Sector: 3, Keep: 2, Torn: 1}, {Sector: 3, Keep: 1}}, mix(1, 3, 2)},
		{[]api.Fate{{File: 1, Sector: 3, Keep: 3}, {File: 7, Sector: 3, Keep: 3}, {Sector: 2, Keep: 3}, {Sector: -3, Keep: 3}, {Sector: 3}}, of(9)},
	} {
		d := disk.New(4, 4)
		d.Write(0, 3, of(9))
		d.Sync(0)
		for b := byte(1); b <= 3; b++ {
			d.Write(0, 3, of(b))
		}
		d.Crash(c.fates)
		read(t, d, 0, 3, c.want)
		image(t, d, 0, 3, c.want)
		if d.Waits(0, 3) != 0 {
			t.Error("a write waits behind a crash")
		}
		d.Crash(c.fates)
		read(t, d, 0, 3, c.want)
	}
}

func TestHalt(t *testing.T) {
	d := disk.New(4, 4)
	d.Halt(2)
	d.Write(0, 0, of(1))
	d.Write(0, 9, of(1))       // no call: there is no such sector
	d.Write(0, 0, of(1)[:100]) // no call: no sector
	d.Sync(2)                  // no call: no file
	d.Sync(0)
	if d.Halted() {
		t.Error("halted ahead of the first call that is not done")
	}
	image(t, d, 0, 0, of(1))
	if err := d.Write(1, 1, of(2)); err != api.OK || !d.Halted() || d.Waits(1, 1) != 0 {
		t.Error("a write that is not done")
	}
	if d.Write(0, 9, of(1)) != api.ErrDiskNone || d.Write(0, 0, nil) != api.ErrArg {
		t.Error("errors on a halted device")
	}
	read(t, d, 1, 1, of(0))
	d.Halt(1)
	if !d.Halted() {
		t.Error("a Halt behind: halted stays")
	}
	d.Write(1, 1, of(3))
	d.Sync(1)
	if d.Waits(1, 1) != 1 {
		t.Error("the first call behind the second Halt")
	}
	d.Crash([]api.Fate{{File: 1, Sector: 1, Keep: 1}})
	image(t, d, 1, 1, of(3))
	if d.Halted() {
		t.Error("halted behind a crash")
	}
	for range 5 {
		d.Write(1, 1, of(4))
	}
	d.Sync(1)
	image(t, d, 1, 1, of(4))
}

func TestHaltOfNothing(t *testing.T) {
	for _, n := range []int{0, -1, math.MinInt} {
		d := disk.New(1, 1)
		d.Write(0, 0, of(1))
		d.Halt(n)
		if d.Halted() {
			t.Error("halted without a call")
		}
		d.Sync(0)
		if !d.Halted() || d.Waits(0, 0) != 1 {
			t.Errorf("Sync behind Halt(%d)", n)
		}
	}
	d := disk.New(1, 1)
	d.Halt(5)
	d.Halt(0)
	d.Write(0, 0, of(1))
	if d.Waits(0, 0) != 0 {
		t.Error("the second Halt takes the place of the first")
	}
	d.Crash(nil)
	d.Halt(1)
	d.Crash(nil)
	d.Write(0, 0, of(1))
	d.Sync(0)
	image(t, d, 0, 0, of(1))
}
