package wal_test

import (
	"bytes"
	"fmt"
	"testing"

	"manciple/api"
	"manciple/disk"
	"manciple/num"
	"manciple/rec"
	"manciple/strip"
	"manciple/wal"
)

// same says whether two values are the same; lists that are nil and lists that are empty are.
func same(a, b any) bool { return fmt.Sprint(a) == fmt.Sprint(b) }

func begin(n uint32) api.Rec { return api.Rec{Kind: api.RecBegin, Txn: n} }

// change is a record of 100 bytes.
func change(n byte) api.Rec {
	return api.Rec{Kind: api.RecChange, Txn: 1, Change: api.Change{Has: true, After: bytes.Repeat([]byte{n}, 64)}}
}

func made(t *testing.T, sectors int) (*disk.Dev, *wal.Log) {
	t.Helper()
	d := disk.New(sectors, 0)
	l, err := wal.New(d)
	if err != api.OK {
		t.Fatalf("New: %v", err)
	}
	return d, l
}

func opened(t *testing.T, d *disk.Dev) *wal.Log {
	t.Helper()
	l, err := wal.Open(d)
	if err != api.OK {
		t.Fatalf("Open: %v", err)
	}
	return l
}

func add(t *testing.T, l *wal.Log, r api.Rec) uint64 {
	t.Helper()
	place, err := l.Append(r, 0)
	if err != api.OK {
		t.Fatalf("Append: %v", err)
	}
	return place
}

func at(t *testing.T, d *disk.Dev, sector int) []byte {
	t.Helper()
	b, err := d.Read(api.FileLog, sector)
	if err != api.OK {
		t.Fatalf("Read of sector %d: %v", sector, err)
	}
	return b
}

func header(stamp uint64, area byte, base, check uint64) []byte {
	b := append(num.Put(stamp, 8), area)
	b = append(b, num.Put(base, 8)...)
	b = append(b, num.Put(check, 8)...)
	b = append(b, make([]byte, 95)...)
	return append(b, num.Put(stamp, 8)...)
}

func places(t *testing.T, l *wal.Log, base, end, lasts, check, room uint64) {
	t.Helper()
	got := [5]uint64{l.Base(), l.End(), l.Lasts(), l.Check(), l.Room()}
	if got != [5]uint64{base, end, lasts, check, room} {
		t.Errorf("Base, End, Lasts, Check, Room: %d", got)
	}
}

func TestNew(t *testing.T) {
	for _, n := range []int{0, 1, 2, 17} {
		if l, err := wal.New(disk.New(n, 0)); l != nil || err != api.ErrWalForm {
			t.Errorf("New of %d sectors: %v", n, err)
		}
	}
	d, l := made(t, 18)
	places(t, l, 1, 1, 1, 0, 1016)
	if !bytes.Equal(d.Image(api.FileLog)[0], header(1, 0, 1, 0)) || l.Dev() != d || len(l.Entries(0)) != 0 {
		t.Error("New")
	}
	for i := 1; i < 18; i++ {
		if !bytes.Equal(at(t, d, i), make([]byte, 128)) {
			t.Errorf("sector %d of a new log", i)
		}
	}
}

func TestNewCleans(t *testing.T) {
	full := make([][]byte, 19)
	for i := range full {
		full[i] = bytes.Repeat([]byte{7}, 128)
	}
	d := disk.Open(full, nil)
	d.Halt(19)
	wal.New(d)
	for i, b := range d.Image(api.FileLog) {
		if b[0] != 7 || d.Waits(api.FileLog, i) != 1 {
			t.Fatalf("sector %d is not written ahead of the sync", i)
		}
	}
	d = disk.Open(full, nil)
	d.Halt(22) // 19 writes, a sync, the header, a sync
	wal.New(d)
	if d.Halted() || !bytes.Equal(d.Image(api.FileLog)[0], header(1, 0, 1, 0)) || !bytes.Equal(d.Image(api.FileLog)[18], make([]byte, 128)) {
		t.Error("calls of New on a device that is not empty")
	}
	d = disk.New(18, 0)
	d.Halt(2)
	wal.New(d)
	if d.Halted() {
		t.Error("New on an empty device writes noughts")
	}
}

func TestAppendRead(t *testing.T) {
	_, l := made(t, 18)
	if place := add(t, l, begin(1)); place != 1 {
		t.Errorf("the first place is %d", place)
	}
	places(t, l, 1, 28, 1, 0, 1016-27)
	if place := add(t, l, change(3)); place != 28 {
		t.Errorf("the second place is %d", place)
	}
	add(t, l, begin(2))
	if r, next, err := l.Read(28); err != api.OK || next != 128 || !same(r, change(3)) {
		t.Errorf("Read(28): %v, %d, %v", r, next, err)
	}
	if r, next, err := l.Read(128); err != api.OK || next != 155 || !same(r, begin(2)) {
		t.Errorf("Read(128): %v, %d, %v", r, next, err)
	}
	for _, lsn := range []uint64{0, 2, 27, 29, 127, 155, 1 << 63, 1<<64 - 1} {
		if r, next, err := l.Read(lsn); err != api.ErrWalNone || next != 0 || !same(r, api.Rec{}) {
			t.Errorf("Read(%d): %v, %d, %v", lsn, r, next, err)
		}
	}
	want := []api.Entry{{LSN: 1, Rec: begin(1)}, {LSN: 28, Rec: change(3)}, {LSN: 128, Rec: begin(2)}}
	for from, n := range map[uint64]int{0: 0, 1: 0, 2: 1, 28: 1, 29: 2, 128: 2, 129: 3, 1<<64 - 1: 3} {
		if !same(l.Entries(from), want[n:]) {
			t.Errorf("Entries(%d)", from)
		}
	}
	r, _, _ := l.Read(28)
	r.Change.After[0] = 99
	l.Entries(0)[1].Rec.Change.After[0] = 99
	if r, _, _ = l.Read(28); !same(r, change(3)) {
		t.Error("a record was changed from outside")
	}
}

func TestAppendOfWhatMayNotBe(t *testing.T) {
	_, l := made(t, 18)
	for _, spare := range []uint64{0, 1 << 63} {
		if place, err := l.Append(api.Rec{}, spare); place != 0 || err != api.ErrRecForm {
			t.Errorf("Append of no record: %d, %v", place, err)
		}
	}
	for _, c := range []struct {
		spare uint64
		want  api.Errno
	}{{989, 0}, {963, api.ErrWalFull}, {962, 0}, {1016, api.ErrWalFull}, {1017, api.ErrWalFull}, {1<<64 - 1, api.ErrWalFull}, {1<<64 - 27, api.ErrWalFull}} {
		end := l.End()
		place, err := l.Append(begin(1), c.spare)
		if err != c.want || err != api.OK && (place != 0 || l.End() != end) || err == api.OK && place != end {
			t.Errorf("Append with %d spare: %d, %v", c.spare, place, err)
		}
	}
	for l.Room() >= 27 {
		add(t, l, begin(1))
	}
	if _, err := l.Append(begin(1), 0); err != api.ErrWalFull || l.Room() != 1016%27 {
		t.Error("Append where there is no room")
	}
	_, l = made(t, 18)
	for range 10 {
		add(t, l, change(1))
	}
	if _, err := l.Append(begin(1), 0); err != api.ErrWalFull {
		t.Error("Append where 16 bytes are left")
	}
}

func TestFlush(t *testing.T) {
	d, l := made(t, 18)
	for i := range byte(5) {
		add(t, l, change(i))
	}
	l.Flush(0)
	if l.Lasts() != 1 {
		t.Error("Flush ahead of all records")
	}
	l.Flush(1)
	places(t, l, 1, 501, 101, 0, 516)
	l.Flush(100)
	if l.Lasts() != 101 {
		t.Error("Flush of a place within the first record")
	}
	d.Halt(4) // sectors 0 to 2 of the area, a sync
	l.Flush(201)
	if d.Halted() || l.Lasts() != 301 {
		t.Errorf("Flush of the third record: lasts %d", l.Lasts())
	}
	d.Crash(nil)
	l = opened(t, d)
	if len(l.Entries(0)) != 3 || l.End() != 301 || l.Lasts() != 301 {
		t.Errorf("behind a crash: %d records", len(l.Entries(0)))
	}
	add(t, l, change(9))
	l.Flush(1<<64 - 1)
	d.Crash(nil)
	l = opened(t, d)
	if e := l.Entries(0); len(e) != 4 || !same(e[3], api.Entry{LSN: 301, Rec: change(9)}) {
		t.Error("what was appended behind a crash")
	}
}

// Flush writes just those sectors that are not wholly ahead of what lasts, in order.
func TestFlushWritesFewSectors(t *testing.T) {
	d, l := made(t, 22)
	var stream []byte
	for i := range byte(11) {
		r := change(i)
		if i == 1 {
			r = begin(7) // so that a sector's end is a record's: 100 + 27
		}
		b, _ := rec.Encode(r)
		stream = append(stream, b...)
		add(t, l, r)
	}
	flush := func(lsn uint64, writes int) {
		t.Helper()
		d.Halt(writes)
		l.Flush(lsn)
		waits := 0
		for i := range 22 {
			waits += d.Waits(api.FileLog, i)
		}
		if !d.Halted() || waits != writes {
			t.Errorf("Flush(%d) writes %d sectors", lsn, waits)
		}
	}
	flush(101, 1)
	if l.Lasts() != 128 {
		t.Fatalf("lasts %d", l.Lasts())
	}
	d.Crash([]api.Fate{{File: 0, Sector: 2, Keep: 1}})
	if !bytes.Equal(at(t, d, 2), strip.Lay(stream[:127])[0]) {
		t.Error("the first sector")
	}
	flush(128, 1) // sector 0 is wholly ahead
	d.Crash([]api.Fate{{File: 0, Sector: 3, Keep: 1}})
	flush(228, 2) // the sector in which 228 stands, and the next one
	d.Crash([]api.Fate{{File: 0, Sector: 3, Keep: 1}, {File: 0, Sector: 4, Keep: 1}})
	for i, want := range strip.Lay(stream[:327]) {
		if !bytes.Equal(at(t, d, 2+i), want) {
			t.Errorf("sector %d of the area", i)
		}
	}
	d.Halt(0)
	l.Flush(128)
	l.Flush(327 - 1)
	if d.Halted() || l.Lasts() != 328 {
		t.Error("Flush of what lasts")
	}
}

func TestOpenOfWhatIsNone(t *testing.T) {
	with := func(first, second []byte) *disk.Dev {
		s := [][]byte{first, second}
		for range 16 {
			s = append(s, make([]byte, 128))
		}
		return disk.Open(s, nil)
	}
	no := make([]byte, 128)
	bad := func(i int) []byte {
		b := header(5, 0, 1, 0)
		b[i]++
		return b
	}
	for i, b := range [][]byte{no, header(0, 0, 1, 0), header(1, 2, 1, 0), header(1, 255, 1, 0), header(1, 0, 0, 0), header(1, 0, 1<<63+1, 0), bad(0), bad(7), bad(120), bad(127), bad(25), bad(119)} {
		if l, err := wal.Open(with(b, no)); l != nil || err != api.ErrWalForm {
			t.Errorf("header %d counts", i)
		}
		if l, err := wal.Open(with(no, b)); l != nil || err != api.ErrWalForm {
			t.Errorf("header %d counts as the second", i)
		}
		if l, err := wal.Open(with(b, header(1, 1, 9, 4))); err != api.OK || l.Base() != 9 || l.Check() != 4 {
			t.Errorf("the other one beside header %d", i)
		}
	}
	for _, c := range []struct {
		first, second []byte
		base          uint64
	}{
		{header(5, 0, 50, 0), header(4, 1, 40, 0), 50}, {header(5, 0, 50, 0), header(6, 1, 60, 0), 60},
		{header(5, 0, 50, 0), header(5, 1, 60, 0), 50}, {header(1<<64-1, 0, 1<<63, 0), header(6, 1, 60, 0), 1 << 63},
	} {
		if l, err := wal.Open(with(c.first, c.second)); err != api.OK || l.Base() != c.base || l.End() != c.base {
			t.Errorf("the header with base %d", c.base)
		}
	}
	for _, n := range []int{0, 1, 17} {
		s := [][]byte{header(1, 0, 1, 0), no, no, no, no, no, no, no, no, no, no, no, no, no, no, no, no}
		if l, err := wal.Open(disk.Open(s[:n], nil)); l != nil || err != api.ErrWalForm {
			t.Errorf("Open of %d sectors", n)
		}
	}
}

// The next header goes to the sector that has not the last one.
func TestHeadersGoByTurns(t *testing.T) {
	d, l := made(t, 18)
	l.Mark(5)
	if !bytes.Equal(at(t, d, 1), header(2, 0, 1, 5)) || !bytes.Equal(at(t, d, 0), header(1, 0, 1, 0)) {
		t.Error("the second header")
	}
	l.Mark(6)
	if !bytes.Equal(at(t, d, 0), header(3, 0, 1, 6)) {
		t.Error("the third header")
	}
	d.Crash(nil)
	l = opened(t, d)
	if l.Check() != 6 {
		t.Error("Check behind a crash")
	}
	l.Mark(7)
	if !bytes.Equal(at(t, d, 1), header(4, 0, 1, 7)) || !bytes.Equal(at(t, d, 0), header(3, 0, 1, 6)) {
		t.Error("the header behind Open")
	}
}

func TestOpenCleans(t *testing.T) {
	b, _ := rec.Encode(begin(1))
	stream := append(bytes.Repeat(b, 6), 27, 0, 1, 2, 3)
	sectors := [][]byte{header(1, 0, 1, 0), make([]byte, 128)}
	for _, s := range strip.Lay(append(stream, make([]byte, 127)...)) {
		sectors = append(sectors, s)
	}
	for len(sectors) < 18 {
		sectors = append(sectors, bytes.Repeat([]byte{7}, 128))
	}
	d := disk.Open(sectors, nil)
	d.Halt(7 + 8) // more than enough
	l := opened(t, d)
	places(t, l, 1, 163, 163, 0, 1016-162)
	if d.Halted() || d.Waits(api.FileLog, 3) != 0 {
		t.Error("what Open writes does not last")
	}
	want := strip.Lay(stream[:162])
	for i := range 8 {
		is := make([]byte, 128)
		if i < len(want) {
			is = want[i]
		}
		if !bytes.Equal(d.Image(api.FileLog)[2+i], is) {
			t.Errorf("sector %d of the area", i)
		}
	}
	if d.Image(api.FileLog)[10][0] != 7 {
		t.Error("the other area was touched")
	}
	d.Crash(nil)
	d.Halt(0)
	opened(t, d)
	if d.Halted() {
		t.Error("Open writes where all is clean")
	}
	d = disk.Open(sectors, nil)
	d.Halt(7)
	opened(t, d)
	if !d.Halted() {
		t.Error("sectors 1 to 7 and a sync are eight calls")
	}
}

func TestMark(t *testing.T) {
	d, l := made(t, 18)
	place := add(t, l, begin(1))
	l.Mark(place)
	places(t, l, 1, 28, 28, place, 1016-27)
	d.Crash(nil)
	l = opened(t, d)
	places(t, l, 1, 28, 28, place, 1016-27)
	l.Mark(1<<64 - 1)
	if l.Check() != 1<<64-1 {
		t.Error("Mark of any number")
	}
}

func TestRenew(t *testing.T) {
	d, l := made(t, 19)
	add(t, l, begin(1))
	l.Mark(1)
	add(t, l, change(1))
	l.Renew()
	places(t, l, 128, 128, 128, 0, 1016)
	if !bytes.Equal(at(t, d, 0), header(3, 1, 128, 0)) {
		t.Error("the header behind Renew")
	}
	if place := add(t, l, begin(2)); place != 128 {
		t.Errorf("the first place behind Renew: %d", place)
	}
	if _, _, err := l.Read(1); err != api.ErrWalNone {
		t.Error("a record from ahead of Renew")
	}
	l.Flush(128)
	if at(t, d, 10)[0] != 27 || at(t, d, 2)[0] != 27 {
		t.Error("the areas behind Renew")
	}
	d.Crash(nil)
	l = opened(t, d)
	if !same(l.Entries(0), []api.Entry{{LSN: 128, Rec: begin(2)}}) {
		t.Error("behind a crash")
	}
	l.Renew() // back to area 0, whose two sectors are cleaned
	if !bytes.Equal(at(t, d, 1), header(4, 0, 155, 0)) {
		t.Error("the header behind Renew twice")
	}
	for i := 2; i < 10; i++ {
		if !bytes.Equal(d.Image(api.FileLog)[i], make([]byte, 128)) {
			t.Errorf("sector %d is not clean", i)
		}
	}
}

func TestRenewIsAtOnce(t *testing.T) {
	for calls := range 5 { // a sector that is cleaned, a sync, the header, a sync
		d, l := made(t, 18)
		add(t, l, begin(1))
		l.Renew()
		add(t, l, change(1))
		l.Flush(28)
		d.Halt(calls)
		l.Renew()
		if d.Halted() != (calls < 4) {
			t.Errorf("Renew has not 4 calls: %d", calls)
		}
		d.Crash(nil)
		l = opened(t, d)
		base, n := uint64(28), 1
		if calls == 4 {
			base, n = 128, 0
		}
		if l.Base() != base || len(l.Entries(0)) != n {
			t.Errorf("Renew halted behind %d calls: Base %d, %d records", calls, l.Base(), len(l.Entries(0)))
		}
	}
}

// Whatever a crash leaves, what lasted is there, and what is there was appended.
func TestAnyCrash(t *testing.T) {
	seed := uint32(1)
	next := func(n int) int {
		seed = seed*1664525 + 1013904223
		return int(seed>>8) % n
	}
	for range 400 {
		d, l := made(t, 18)
		var all []api.Rec
		for range next(4) {
			d.Halt(next(30))
			lasted := 0
			for range next(14) {
				r := change(byte(next(256)))
				if next(3) > 0 {
					if _, err := l.Append(r, 0); err == api.OK {
						all = append(all, r)
					}
					continue
				}
				if next(2) == 0 {
					l.Flush(1 << 63)
				} else {
					l.Mark(l.Base())
				}
				if !d.Halted() {
					lasted = len(all)
				}
			}
			var fates []api.Fate
			for i := range 18 {
				fates = append(fates, api.Fate{Sector: i, Keep: next(3), Torn: next(140)})
			}
			d.Crash(fates)
			l = opened(t, d)
			e := l.Entries(0)
			if len(e) < lasted || len(e) > len(all) || l.Base() != 1 {
				t.Fatalf("%d records, %d lasted, %d were appended", len(e), lasted, len(all))
			}
			for i := range e {
				if !same(e[i].Rec, all[i]) {
					t.Fatalf("record %d", i)
				}
			}
			all = all[:len(e)]
		}
	}
}
