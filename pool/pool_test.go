package pool_test

import (
	"bytes"
	"fmt"
	"testing"

	"manciple/api"
	"manciple/disk"
	"manciple/num"
	"manciple/page"
	"manciple/pool"
	"manciple/seal"
	"manciple/wal"
)

// same says whether two values are the same; lists that are nil and lists that are empty are.
func same(a, b any) bool { return fmt.Sprint(a) == fmt.Sprint(b) }

// device has a log of some sectors, and room for so many pages and the spare.
func device(pages int) *disk.Dev { return disk.New(66, 4*(pages+1)) }

func logOn(t *testing.T, d *disk.Dev) *wal.Log {
	t.Helper()
	l, err := wal.New(d)
	if err != api.OK {
		t.Fatalf("wal.New: %v", err)
	}
	return l
}

func poolOn(t *testing.T, l *wal.Log, pages, frames int) *pool.Pool {
	t.Helper()
	p, err := pool.New(l, pages, frames)
	if err != api.OK {
		t.Fatalf("New: %v", err)
	}
	return p
}

func get(t *testing.T, p *pool.Pool, n uint32) *page.Page {
	t.Helper()
	is, err := p.Get(n)
	if err != api.OK || is == nil {
		t.Fatalf("Get(%d): %v", n, err)
	}
	return is
}

// change sets slot 0 of a page to a byte, by a record of the log.
func change(t *testing.T, p *pool.Pool, n uint32, b byte) uint64 {
	t.Helper()
	lsn, err := p.Log().Append(api.Rec{Kind: api.RecChange, Txn: 1, Change: api.Change{Page: n, Has: true, After: []byte{b}}}, 0)
	if err != api.OK {
		t.Fatalf("Append: %v", err)
	}
	get(t, p, n).Set(0, []byte{b})
	if !p.Put(n, lsn) {
		t.Fatalf("Put(%d)", n)
	}
	return lsn
}

func holds(t *testing.T, p *pool.Pool, n uint32, b byte) {
	t.Helper()
	is, ok := get(t, p, n).Get(0)
	if ok != (b != 0) || ok && is[0] != b {
		t.Errorf("page %d holds %v", n, is)
	}
	p.Put(n, 0)
}

func TestNew(t *testing.T) {
	for _, c := range [][3]int{{0, 8, 64}, {513, 8, 4096}, {-1, 8, 64}, {4, 2, 64}, {4, 65, 64}, {4, 0, 64}, {4, -1, 64}, {4, 3, 19}, {512, 3, 2051}, {1 << 62, 3, 64}} {
		l := logOn(t, disk.New(18, c[2]))
		if p, err := pool.New(l, c[0], c[1]); p != nil || err != api.ErrPoolForm {
			t.Errorf("New of %d pages, %d frames, %d sectors: %v", c[0], c[1], c[2], err)
		}
	}
	for _, c := range [][3]int{{4, 3, 20}, {1, 64, 8}, {512, 3, 2052}, {4, 3, 99}} {
		l := logOn(t, disk.New(18, c[2]))
		p := poolOn(t, l, c[0], c[1])
		if p.Pages() != c[0] || p.Log() != l || len(p.At()) != c[1] || p.At()[0] != -1 || len(p.Dirty()) != 0 {
			t.Errorf("New of %d pages, %d frames", c[0], c[1])
		}
	}
}

func TestExample(t *testing.T) {
	p := poolOn(t, logOn(t, device(4)), 4, 3)
	for n := range uint32(3) {
		if is := get(t, p, n); is.Number() != n || !bytes.Equal(is.Bytes(), page.New(n).Bytes()) {
			t.Errorf("page %d", n)
		}
		if !p.Put(n, 0) {
			t.Errorf("Put(%d)", n)
		}
	}
	if !same(p.At(), []int{0, 1, 2}) {
		t.Errorf("At: %v", p.At())
	}
	get(t, p, 3)
	if !same(p.At(), []int{3, 1, 2}) {
		t.Errorf("At: %v", p.At())
	}
	get(t, p, 1)
	get(t, p, 2)
	if is, err := p.Get(0); is != nil || err != api.ErrPoolFull {
		t.Errorf("the fourth Get without Put: %v", err)
	}
	get(t, p, 1)
	p.Put(1, 0)
	if _, err := p.Get(0); err != api.ErrPoolFull {
		t.Error("page 1 was got twice, and put back once")
	}
	p.Put(1, 0)
	get(t, p, 0)
	if !same(p.At(), []int{3, 0, 2}) {
		t.Errorf("At: %v", p.At())
	}
}

func TestGetPut(t *testing.T) {
	p := poolOn(t, logOn(t, device(4)), 4, 3)
	for _, n := range []uint32{4, 5, 1<<32 - 1} {
		if is, err := p.Get(n); is != nil || err != api.ErrPoolNone {
			t.Errorf("Get(%d): %v", n, err)
		}
		if p.Put(n, 1) || p.Write(n) {
			t.Errorf("Put, Write of page %d", n)
		}
	}
	if p.Put(0, 5) || p.Write(0) {
		t.Error("Put, Write of a page that is not at hand")
	}
	a := get(t, p, 0)
	if get(t, p, 0) != a {
		t.Error("Get twice tells another page")
	}
	if !p.Put(0, 0) || !p.Put(0, 0) || p.Put(0, 0) || p.Put(0, 7) {
		t.Error("Put more often than Get")
	}
	if a.LSN() != 0 || len(p.Dirty()) != 0 || p.Write(0) {
		t.Error("a page that was not changed")
	}
	get(t, p, 0)
	if !p.Put(0, 9) || a.LSN() != 9 || !same(p.Dirty(), []api.Dirty{{Page: 0, First: 9}}) {
		t.Error("Put of a page that was changed")
	}
	get(t, p, 0)
	p.Put(0, 12)
	get(t, p, 0)
	p.Put(0, 0)
	if a.LSN() != 12 || !same(p.Dirty(), []api.Dirty{{Page: 0, First: 9}}) {
		t.Error("FIRST is the first place")
	}
	get(t, p, 2)
	p.Put(2, 14)
	get(t, p, 1)
	p.Put(1, 16)
	if !same(p.Dirty(), []api.Dirty{{Page: 0, First: 9}, {Page: 1, First: 16}, {Page: 2, First: 14}}) {
		t.Errorf("Dirty: %v", p.Dirty())
	}
	if !p.Write(1) || p.Write(1) || !same(p.Dirty(), []api.Dirty{{Page: 0, First: 9}, {Page: 2, First: 14}}) {
		t.Error("Write")
	}
	get(t, p, 1)
	if p.Write(1) {
		t.Error("Write of a page that is clean")
	}
	p.Put(1, 20)
	get(t, p, 1)
	if !p.Write(1) {
		t.Error("Write of a page that is got")
	}
	p.WriteAll()
	if len(p.Dirty()) != 0 {
		t.Error("WriteAll")
	}
}

// A page is written behind its records, to the spare first, then home.
func TestToWrite(t *testing.T) {
	d := device(4)
	p := poolOn(t, logOn(t, d), 4, 3)
	change(t, p, 2, 7)
	want := get(t, p, 2).Bytes()
	p.Put(2, 0)
	other, _ := p.Log().Append(api.Rec{Kind: api.RecBegin}, 0)
	sealed := seal.Seal(want, 1)
	for calls := range 14 { // a sector of the log, a sync, four and four sectors with a sync each: twelve
		d := device(4)
		p := poolOn(t, logOn(t, d), 4, 3)
		change(t, p, 2, 7)
		p.Log().Append(api.Rec{Kind: api.RecBegin}, 0)
		d.Halt(calls)
		if !p.Write(2) || len(p.Dirty()) != 0 || d.Halted() != (calls < 12) {
			t.Fatalf("Write with %d calls", calls)
		}
		for i := range 4 {
			spare := calls > 2+i // written, and lasting behind the sync
			if got := d.Waits(1, 16+i) + lasting(d, 16+i, sealed[i]); (got == 1) != spare {
				t.Errorf("spare sector %d behind %d calls", i, calls)
			}
			if got := d.Waits(1, 8+i) + lasting(d, 8+i, sealed[i]); (got == 1) != (calls > 7+i) {
				t.Errorf("home sector %d behind %d calls", i, calls)
			}
		}
		if calls >= 2 && p.Log().Lasts() == 1 {
			t.Error("the record does not last")
		}
	}
	p.Write(2)
	if p.Log().Lasts() != other {
		t.Errorf("the log lasts up to %d, not %d", p.Log().Lasts(), other)
	}
	change(t, p, 1, 8)
	p.Write(1)
	b, stamp, ok := seal.Open(d.Image(1)[4:8])
	if is, err := page.Read(b); !ok || stamp != 2 || err != api.OK || is.Number() != 1 {
		t.Errorf("the second page's stamp is %d", stamp)
	}
}

func lasting(d *disk.Dev, sector int, want []byte) int {
	if bytes.Equal(d.Image(1)[sector], want) {
		return 1
	}
	return 0
}

func TestPagesGoAndCome(t *testing.T) {
	d := device(6)
	p := poolOn(t, logOn(t, d), 6, 3)
	for n := range uint32(6) {
		change(t, p, n, byte(n+1))
	}
	if !same(p.At(), []int{3, 4, 5}) || len(p.Dirty()) != 3 {
		t.Errorf("At: %v", p.At())
	}
	for n := range uint32(6) {
		holds(t, p, n, byte(n+1))
	}
	if len(p.Dirty()) != 0 {
		t.Error("all were written, as all have gone")
	}
	d.Crash(nil)
	l, _ := wal.Open(d)
	p = poolOn(t, l, 6, 4)
	for n := range uint32(6) {
		holds(t, p, n, byte(n+1))
		if is := get(t, p, n); is.Number() != n || is.LSN() == 0 {
			t.Errorf("page %d behind a crash", n)
		}
		p.Put(n, 0)
	}
}

func TestWriteAllGoesByNumbers(t *testing.T) {
	d := device(5)
	p := poolOn(t, logOn(t, d), 5, 4)
	for _, n := range []uint32{3, 1, 4, 2} {
		change(t, p, n, byte(n))
	}
	p.WriteAll()
	for n := 1; n <= 4; n++ {
		if _, stamp, ok := seal.Open(d.Image(1)[4*n : 4*n+4]); !ok || stamp != uint64(n) {
			t.Errorf("page %d has stamp %d", n, stamp)
		}
	}
	if _, stamp, ok := seal.Open(d.Image(1)[20:24]); !ok || stamp != 4 {
		t.Errorf("the spare has stamp %d", stamp)
	}
}

// sectors is a file of pages, each sealed with a stamp, with something as the spare.
func sectors(stamps []uint64, spare [][]byte) [][]byte {
	var l [][]byte
	for n, stamp := range stamps {
		p := page.New(uint32(n))
		p.Set(0, []byte{byte(n + 1)})
		l = append(l, seal.Seal(p.Bytes(), stamp)...)
	}
	return append(l, spare...)
}

func TestMend(t *testing.T) {
	one := page.New(1)
	one.Set(0, []byte{99})
	noughts := [][]byte{make([]byte, 128), make([]byte, 128), make([]byte, 128), make([]byte, 128)}
	torn := seal.Seal(one.Bytes(), 8)
	torn[2][3] ^= 1
	noPage := one.Bytes()
	noPage[12] = 77
	for i, c := range []struct {
		bad   int // which home is not whole
		spare [][]byte
		ok    bool
	}{
		{1, seal.Seal(one.Bytes(), 8), true},
		{2, seal.Seal(one.Bytes(), 8), false},
		{0, seal.Seal(one.Bytes(), 8), false},
		{1, torn, false},
		{1, noughts, false},
		{0, noughts, true},
		{1, seal.Seal(noPage, 8), false},
		{-1, torn, true},
	} {
		l := sectors([]uint64{5, 6, 7}, c.spare)
		if c.bad >= 0 {
			l[4*c.bad+3] = bytes.Repeat([]byte{0xee}, 128)
		}
		d := disk.Open(make18(), l)
		log := logOn(t, d)
		d.Halt(5)
		p, err := pool.New(log, 3, 3)
		if (err == api.OK) != c.ok || (p != nil) != c.ok || !c.ok && err != api.ErrPoolForm {
			t.Fatalf("case %d: %v", i, err)
		}
		if d.Halted() {
			t.Errorf("case %d: more than four writes and a sync", i)
		}
		if !c.ok || c.bad < 0 {
			continue
		}
		for j := range 4 {
			if !bytes.Equal(d.Image(1)[4*c.bad+j], c.spare[j]) {
				t.Errorf("case %d: sector %d", i, j)
			}
		}
	}
}

func make18() [][]byte {
	var l [][]byte
	for range 18 {
		l = append(l, make([]byte, 128))
	}
	return l
}

// STAMP is the greatest one of all sectors, wherever it stands.
func TestStamp(t *testing.T) {
	for _, where := range []string{"home", "spare", "part"} {
		l := sectors([]uint64{5, 40, 7}, seal.Seal(page.New(0).Bytes(), 12))
		want := uint64(41)
		switch where {
		case "spare":
			l = sectors([]uint64{5, 40, 7}, seal.Seal(page.New(0).Bytes(), 60))
			want = 61
		case "part":
			copy(l[13][120:], num.Put(1000, 8))
			want = 1001
		}
		d := disk.Open(make18(), l)
		p := poolOn(t, logOn(t, d), 3, 3)
		change(t, p, 0, 3)
		p.Write(0)
		if _, stamp, ok := seal.Open(d.Image(1)[:4]); !ok || stamp != want {
			t.Errorf("%s: stamp %d, not %d", where, stamp, want)
		}
	}
}

// A home that is whole, and no page, is told when it is got.
func TestHomeThatIsNoPage(t *testing.T) {
	l := sectors([]uint64{5, 6, 7, 8}, seal.Seal(page.New(0).Bytes(), 9))
	bad := page.New(1).Bytes()
	bad[14] = 3
	copy(l[4:], seal.Seal(bad, 6))
	d := disk.Open(make18(), l)
	p := poolOn(t, logOn(t, d), 4, 3)
	for _, n := range []uint32{0, 2, 3} {
		holds(t, p, n, byte(n+1))
	}
	change(t, p, 0, 77)
	if is, err := p.Get(1); is != nil || err != api.ErrPoolForm {
		t.Errorf("Get(1): %v", err)
	}
	if !same(p.At(), []int{-1, 2, 3}) || p.Put(1, 0) {
		t.Errorf("At: %v", p.At())
	}
	holds(t, p, 0, 77)
	if len(p.Dirty()) != 0 || !same(p.At(), []int{0, 2, 3}) {
		t.Error("page 0 was written as it left")
	}
	d.Write(1, 13, bytes.Repeat([]byte{1}, 128)) // of page 3, behind the pool's back
	get(t, p, 0)
	get(t, p, 2)
	if _, err := p.Get(1); err != api.ErrPoolForm {
		t.Errorf("Get(1): %v", err)
	}
	if _, err := p.Get(3); err != api.ErrPoolForm {
		t.Errorf("Get(3): %v", err)
	}
}

// An empty page's home may be noughts, or the empty page 0.
func TestEmptyHome(t *testing.T) {
	l := append(sectors([]uint64{1}, nil), seal.Seal(page.New(0).Bytes(), 3)...)
	l = append(l, seal.Seal(page.New(5).Bytes(), 3)...)
	l = append(l, make18()[:4]...)
	p := poolOn(t, logOn(t, disk.Open(make18(), l)), 3, 3)
	if n := get(t, p, 1).Number(); n != 1 {
		t.Errorf("the empty page 0 becomes page %d", n)
	}
	if n := get(t, p, 2).Number(); n != 5 {
		t.Errorf("another page stays as it is: %d", n)
	}
}

// Wherever the device halts, and whatever a crash leaves, each page is as it was written once.
func TestAnyCrash(t *testing.T) {
	seed := uint32(9)
	next := func(n int) int {
		seed = seed*1664525 + 1013904223
		return int(seed>>8) % n
	}
	for range 300 {
		d := device(3)
		p := poolOn(t, logOn(t, d), 3, 3)
		written := [3]byte{}
		d.Halt(next(60))
		for i := range byte(12) {
			n := uint32(next(3))
			change(t, p, n, i+1)
			if p.Write(n); !d.Halted() {
				written[n] = i + 1
			}
		}
		var fates []api.Fate
		for i := range 16 {
			fates = append(fates, api.Fate{File: 1, Sector: i, Keep: next(3), Torn: next(150)})
		}
		d.Crash(fates)
		l, err := wal.Open(d)
		if err != api.OK {
			t.Fatal(err)
		}
		p, err = pool.New(l, 3, 3)
		if err != api.OK {
			t.Fatalf("New behind a crash: %v", err)
		}
		for n := range uint32(3) {
			is, ok := get(t, p, n).Get(0)
			if ok && is[0] < written[n] || !ok && written[n] != 0 {
				t.Fatalf("page %d holds %v, %d was written", n, is, written[n])
			}
			if get(t, p, n).LSN() >= l.End() {
				t.Fatal("a page ahead of the log")
			}
		}
	}
}

// A page that is got again was used.
func TestGetTouches(t *testing.T) {
	p := poolOn(t, logOn(t, device(6)), 6, 3)
	for _, n := range []uint32{0, 1, 2, 3, 1, 4} {
		get(t, p, n)
		p.Put(n, 0)
	}
	if !same(p.At(), []int{3, 1, 4}) {
		t.Errorf("At: %v", p.At())
	}
}
