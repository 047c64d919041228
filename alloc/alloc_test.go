package alloc_test

import (
	"bytes"
	"fmt"
	"testing"

	"manciple/alloc"
	"manciple/api"
	"manciple/disk"
	"manciple/pool"
	"manciple/redo"
	"manciple/txn"
	"manciple/wal"
)

// same says whether two values are the same; lists that are nil and lists that are empty are.
func same(a, b any) bool { return fmt.Sprint(a) == fmt.Sprint(b) }

func made(t *testing.T, strips, pages int) *txn.Manager {
	t.Helper()
	l, err := wal.New(disk.New(2+2*strips, 4*(pages+1)))
	if err != api.OK {
		t.Fatal(err)
	}
	p, err := pool.New(l, pages, 3)
	if err != api.OK {
		t.Fatal(err)
	}
	return txn.New(l, p)
}

func setup(t *testing.T, pages int) *txn.Manager {
	t.Helper()
	m := made(t, 200, pages)
	if err := alloc.Setup(m); err != api.OK {
		t.Fatalf("Setup: %v", err)
	}
	return m
}

// slot is what slot 0 of a page holds.
func slot(t *testing.T, m *txn.Manager, page uint32) []byte {
	t.Helper()
	p, err := m.Pool().Get(page)
	if err != api.OK {
		t.Fatal(err)
	}
	b, _ := p.Get(0)
	if !m.Pool().Put(page, 0) || m.Pool().Put(page, 0) {
		t.Errorf("page %d was not put back", page)
	}
	return b
}

func fresh(t *testing.T, m *txn.Manager, want uint32) {
	t.Helper()
	if n, err := alloc.Fresh(m); n != want || err != api.OK {
		t.Errorf("Fresh: %d, %v, not %d", n, err, want)
	}
}

func chain(t *testing.T, m *txn.Manager, root uint32, want ...uint32) {
	t.Helper()
	if l, err := alloc.Chain(m, root); !same(l, want) || err != api.OK {
		t.Errorf("Chain(%d): %v, %v, not %v", root, l, err, want)
	}
}

func link(t *testing.T, m *txn.Manager, page uint32, kind uint8, to uint32) {
	t.Helper()
	if k, n, err := alloc.Link(m, page); k != kind || n != to || err != api.OK {
		t.Errorf("Link(%d): %d, %d, %v", page, k, n, err)
	}
}

func TestSetup(t *testing.T) {
	m := made(t, 64, 12)
	fresh(t, m, 0)
	link(t, m, 9, 0, 0)
	if err := alloc.Setup(m); err != api.OK {
		t.Fatalf("Setup: %v", err)
	}
	fresh(t, m, 10)
	if !bytes.Equal(slot(t, m, 0), []byte{10, 0, 0, 0}) {
		t.Error("slot 0 of page 0")
	}
	for page := uint32(1); page <= 8; page++ {
		link(t, m, page, 2, 0)
		if !bytes.Equal(slot(t, m, page), []byte{2, 0, 0, 0, 0}) {
			t.Errorf("slot 0 of page %d", page)
		}
		chain(t, m, page, page)
	}
	link(t, m, 9, 1, 0)
	chain(t, m, 9, 9)
	link(t, m, 10, 0, 0)
	if len(m.Active()) != 0 || m.Next() != 2 {
		t.Error("the transaction")
	}
	var order []uint32
	for _, e := range m.Log().Entries(0) {
		if e.Rec.Kind == api.RecChange {
			order = append(order, e.Rec.Change.Page)
		}
	}
	if !same(order, []uint32{0, 1, 2, 3, 4, 5, 6, 7, 8, 9}) {
		t.Errorf("the order: %v", order)
	}
	end := m.Log().End()
	if err := alloc.Setup(m); err != api.OK || m.Log().End() != end {
		t.Errorf("Setup twice: %v", err)
	}
	d := m.Log().Dev()
	d.Crash(nil)
	m, _, _ = redo.Restart(d, 12, 3)
	fresh(t, m, 10)
}

func TestSetupThatFails(t *testing.T) {
	m := made(t, 64, 9)
	if err := alloc.Setup(m); err != api.ErrAllocFull || m.Next() != 1 {
		t.Errorf("Setup of 9 pages: %v", err)
	}
	m = made(t, 64, 10)
	if err := alloc.Setup(m); err != api.OK {
		t.Errorf("Setup of 10 pages: %v", err)
	}
	m = made(t, 8, 12)
	m.Log().Append(api.Rec{Kind: api.RecUndo, Change: api.Change{Has: true, After: make([]byte, 64)}}, 0)
	m.Log().Append(api.Rec{Kind: api.RecUndo, Change: api.Change{Has: true, After: make([]byte, 64)}}, 0)
	if err := alloc.Setup(m); err != api.ErrWalFull || len(m.Active()) != 0 {
		t.Errorf("Setup without room: %v", err)
	}
	fresh(t, m, 0)
	link(t, m, 1, 0, 0)
	for n := range uint32(3) {
		m.Pool().Get(n + 3)
	}
	if err := alloc.Setup(m); err != api.ErrPoolFull {
		t.Errorf("Setup without a frame: %v", err)
	}
	if n, err := alloc.Fresh(m); n != 0 || err != api.ErrPoolFull {
		t.Errorf("Fresh without a frame: %d, %v", n, err)
	}
	m = made(t, 64, 12)
	for range 64 {
		m.Begin()
	}
	if err := alloc.Setup(m); err != api.ErrLimit {
		t.Errorf("Setup beside 64 transactions: %v", err)
	}
}

func TestLinkAndFreshOfOtherBytes(t *testing.T) {
	m := setup(t, 12)
	n, _ := m.Begin()
	m.Change(n, 10, 0, true, []byte{7, 1, 2, 3, 4})
	link(t, m, 10, 7, 0x04030201)
	m.Change(n, 10, 0, true, []byte{7, 1, 2, 3})
	link(t, m, 10, 0, 0)
	m.Change(n, 10, 0, true, []byte{7, 1, 2, 3, 4, 5})
	link(t, m, 10, 0, 0)
	m.Change(n, 0, 0, true, []byte{1, 2, 3, 4})
	fresh(t, m, 0x04030201)
	m.Change(n, 0, 0, true, []byte{1, 2, 3, 4, 5})
	fresh(t, m, 0)
	for _, page := range []uint32{12, 1<<32 - 1} {
		k, to, err := alloc.Link(m, page)
		l, e := alloc.Chain(m, page)
		if k != 0 || to != 0 || err != api.ErrPoolNone || len(l) != 0 || e != api.ErrPoolNone {
			t.Errorf("Link, Chain of page %d: %v, %v", page, err, e)
		}
	}
}

func TestGrow(t *testing.T) {
	m := setup(t, 14)
	n, _ := m.Begin()
	if n != 2 {
		t.Errorf("Begin behind Setup: %d", n)
	}
	for i, tail := range []uint32{9, 10, 3} {
		if page, err := alloc.Grow(m, n, tail); page != uint32(10+i) || err != api.OK {
			t.Errorf("Grow(%d): %d, %v", tail, page, err)
		}
	}
	m.Change(n, 13, 1, true, []byte("x"))
	check := func() {
		t.Helper()
		fresh(t, m, 13)
		chain(t, m, 9, 9, 10, 11)
		chain(t, m, 3, 3, 12)
		link(t, m, 10, 1, 11)
		link(t, m, 11, 1, 0)
		link(t, m, 12, 2, 0)
	}
	check()
	if m.Abort(n) != api.OK {
		t.Error("Abort")
	}
	check()
	p, _ := m.Pool().Get(13)
	if len(p.Slots()) != 0 {
		t.Error("what is not nested is undone")
	}
	m.Pool().Put(13, 0)
	n, _ = m.Begin()
	if page, err := alloc.Grow(m, n, 11); page != 13 || err != api.OK {
		t.Errorf("the last page: %d, %v", page, err)
	}
	end := m.Log().End()
	if page, err := alloc.Grow(m, n, 13); page != 0 || err != api.ErrAllocFull || m.Log().End() != end {
		t.Errorf("no page any more: %d, %v", page, err)
	}
	m.Log().Flush(1 << 60)
	d := m.Log().Dev()
	d.Crash(nil)
	m, _, _ = redo.Restart(d, 14, 3)
	fresh(t, m, 14)
	chain(t, m, 9, 9, 10, 11, 13)
}

func TestGrowThatFails(t *testing.T) {
	m := setup(t, 14)
	n, _ := m.Begin()
	none := func(what string, txn, tail uint32, want api.Errno) {
		t.Helper()
		if page, err := alloc.Grow(m, txn, tail); page != 0 || err != want {
			t.Errorf("%s: %d, %v", what, page, err)
		}
	}
	none("no page", 99, 14, api.ErrPoolNone)
	none("no transaction", 99, 9, api.ErrTxnNone)
	for n := range uint32(3) {
		m.Pool().Get(n + 3)
	}
	none("no frame", n, 9, api.ErrPoolFull)
	for n := range uint32(3) {
		m.Pool().Put(n+3, 0)
	}
	m.Change(n, 5, 0, true, make([]byte, 4)) // no link
	if page, err := alloc.Grow(m, n, 5); page != 10 || err != api.OK {
		t.Errorf("Grow behind a page without a kind: %d, %v", page, err)
	}
	link(t, m, 10, 0, 0)
	link(t, m, 5, 0, 10)
	m.Change(n, 0, 0, false, nil)
	none("nothing laid", n, 9, api.ErrAllocFull)
	m = made(t, 64, 14)
	n, _ = m.Begin()
	none("nothing laid", n, 9, api.ErrAllocFull)
}

// Where there is no room for all of it, nothing of it is done.
func TestGrowWithoutRoom(t *testing.T) {
	for room := range 400 {
		m := made(t, 20, 14)
		alloc.Setup(m)
		n, _ := m.Begin()
		m.Change(n, 9, 1, true, []byte("mine"))
		reserved := m.Reserved()
		for m.Log().Room() > reserved+uint64(room) {
			size := m.Log().Room() - reserved - uint64(room)
			if size > 200 {
				size = 100
			} else if size > 100 {
				size /= 2
			}
			if size < 36 {
				break
			}
			m.Log().Append(api.Rec{Kind: api.RecUndo, Change: api.Change{Has: true, After: make([]byte, size-36)}}, 0)
		}
		page, err := alloc.Grow(m, n, 9)
		if err == api.OK {
			if page != 10 {
				t.Fatal("Grow")
			}
			chain(t, m, 9, 9, 10)
		} else {
			if err != api.ErrWalFull || page != 0 {
				t.Fatalf("room for %d bytes: %v", room, err)
			}
			fresh(t, m, 10)
			chain(t, m, 9, 9)
			link(t, m, 10, 0, 0)
		}
		if m.Reserved() != reserved {
			t.Fatal("what is reserved")
		}
		if m.Abort(n) != api.OK {
			t.Fatal("Abort")
		}
	}
}

// A chain ends, however pages are linked.
func TestChainsThatAreNone(t *testing.T) {
	m := setup(t, 14)
	n, _ := m.Begin()
	to := func(page uint32, next byte) { m.Change(n, page, 0, true, []byte{1, next, 0, 0, 0}) }
	to(9, 9)
	chain(t, m, 9, 9)
	to(9, 10)
	to(10, 11)
	to(11, 10)
	chain(t, m, 9, 9, 10, 11)
	chain(t, m, 11, 11, 10)
	to(11, 14)
	if l, err := alloc.Chain(m, 9); len(l) != 0 || err != api.ErrPoolNone {
		t.Errorf("a page that is none: %v, %v", l, err)
	}
	to(11, 0)
	chain(t, m, 9, 9, 10, 11)
	for page := uint32(1); page < 14; page++ {
		to(page, byte(page+1))
	}
	m.Change(n, 0, 0, true, []byte{1, 1, 0, 0, 0})
	m.Change(n, 13, 0, true, []byte{1, 77, 0, 0, 0})
	chain(t, m, 0, 0, 1, 2, 3, 4, 5, 6, 7, 8, 9, 10, 11, 12, 13)
}

// Reading makes no page other than on the disk.
func TestReadingChangesNothing(t *testing.T) {
	m := setup(t, 12)
	m.Pool().WriteAll()
	alloc.Fresh(m)
	alloc.Link(m, 5)
	alloc.Chain(m, 9)
	alloc.Setup(m)
	if l := m.Pool().Dirty(); len(l) != 0 {
		t.Errorf("Dirty: %v", l)
	}
}
