package heap_test

import (
	"bytes"
	"fmt"
	"testing"

	"manciple/alloc"
	"manciple/api"
	"manciple/disk"
	"manciple/heap"
	"manciple/pool"
	"manciple/txn"
	"manciple/wal"
)

// same says whether two values are the same; lists that are nil and lists that are empty are.
func same(a, b any) bool { return fmt.Sprint(a) == fmt.Sprint(b) }

func made(t *testing.T, pages int) (*txn.Manager, *heap.Heap) {
	t.Helper()
	l, err := wal.New(disk.New(2002, 4*(pages+1)))
	if err != api.OK {
		t.Fatal(err)
	}
	p, err := pool.New(l, pages, 3)
	if err != api.OK {
		t.Fatal(err)
	}
	m := txn.New(l, p)
	if err := alloc.Setup(m); err != api.OK {
		t.Fatal(err)
	}
	return m, heap.New(m)
}

// record are 25 bytes.
func record(b byte) []byte { return bytes.Repeat([]byte{b}, 25) }

func rid(page uint32, slot uint16) api.RID { return api.RID{Page: page, Slot: slot} }

func insert(t *testing.T, h *heap.Heap, n uint32, b byte, want api.RID) {
	t.Helper()
	if r, err := h.Insert(n, record(b)); r != want || err != api.OK {
		t.Errorf("Insert: %v, %v, not %v", r, err, want)
	}
}

func holds(t *testing.T, h *heap.Heap, r api.RID, b byte) {
	t.Helper()
	got, ok := h.Get(r)
	if ok != (b != 0) || ok && !bytes.Equal(got, record(b)) || !ok && len(got) != 0 {
		t.Errorf("Get(%v): %v, %v", r, got, ok)
	}
}

func is(t *testing.T, what string, err, want api.Errno) {
	t.Helper()
	if err != want {
		t.Errorf("%s: %v, not %v", what, err, want)
	}
}

func all(t *testing.T, h *heap.Heap, want ...api.RID) {
	t.Helper()
	if got, err := h.All(); err != api.OK || !same(got, want) {
		t.Errorf("All: %v, %v, not %v", got, err, want)
	}
}

func TestExample(t *testing.T) {
	m, h := made(t, 14)
	m.Begin() // 2
	m.Begin() // 3
	all(t, h)
	insert(t, h, 2, 1, rid(9, 1))
	holds(t, h, rid(9, 1), 1)
	is(t, "Clear", h.Clear(2, rid(9, 1)), api.OK)
	holds(t, h, rid(9, 1), 0)
	insert(t, h, 3, 2, rid(9, 2))
	h.Release(2)
	insert(t, h, 3, 3, rid(9, 1))
	all(t, h, rid(9, 1), rid(9, 2))
}

func TestErrors(t *testing.T) {
	m, h := made(t, 14)
	n, _ := m.Begin()
	for _, size := range []int{0, 24, 26, 64} {
		r, err := h.Insert(99, make([]byte, size))
		if r != (api.RID{}) || err != api.ErrArg {
			t.Errorf("Insert of %d bytes: %v, %v", size, r, err)
		}
		is(t, "Set", h.Set(99, rid(50, 50), make([]byte, size)), api.ErrArg)
	}
	if r, err := h.Insert(99, record(1)); r != (api.RID{}) || err != api.ErrTxnNone {
		t.Errorf("Insert without a transaction: %v, %v", r, err)
	}
	insert(t, h, n, 7, rid(9, 1))
	for _, r := range []api.RID{rid(9, 0), rid(9, 2), rid(9, 15), rid(9, 40), rid(9, 65535), rid(14, 1), rid(1<<32-1, 1), rid(10, 1), rid(0, 0)} {
		holds(t, h, r, 0)
		is(t, "Set", h.Set(99, r, record(1)), api.ErrHeapNone)
		is(t, "Clear", h.Clear(99, r), api.ErrHeapNone)
	}
	is(t, "Set", h.Set(99, rid(9, 1), record(1)), api.ErrTxnNone)
	is(t, "Clear", h.Clear(99, rid(9, 1)), api.ErrTxnNone)
	m.Change(n, 9, 15, true, record(9))
	holds(t, h, rid(9, 15), 0)
	all(t, h, rid(9, 1))
	for page := range uint32(3) {
		m.Pool().Get(page)
	}
	holds(t, h, rid(9, 1), 0)
	is(t, "Set without a frame", h.Set(n, rid(9, 1), record(1)), api.ErrHeapNone)
	is(t, "Clear without a frame", h.Clear(n, rid(9, 1)), api.ErrHeapNone)
	if _, err := h.Insert(n, record(1)); err != api.ErrPoolFull {
		t.Errorf("Insert without a frame: %v", err)
	}
	if l, err := h.All(); len(l) != 0 || err != api.ErrPoolFull {
		t.Errorf("All without a frame: %v", err)
	}
}

func TestSetAndClear(t *testing.T) {
	m, h := made(t, 14)
	n, _ := m.Begin()
	data := record(1)
	r, _ := h.Insert(n, data)
	data[0] = 9
	holds(t, h, r, 1)
	got, _ := h.Get(r)
	got[0] = 9
	holds(t, h, r, 1)
	is(t, "Set", h.Set(n, r, record(2)), api.OK)
	holds(t, h, r, 2)
	is(t, "Clear", h.Clear(n, r), api.OK)
	holds(t, h, r, 0)
	is(t, "Clear twice", h.Clear(n, r), api.ErrHeapNone)
	insert(t, h, n, 3, r) // held by n itself
	is(t, "Abort", m.Abort(n), api.OK)
	holds(t, h, r, 0)
	for page := range uint32(14) {
		if m.Pool().Put(page, 0) {
			t.Errorf("page %d was not put back", page)
		}
	}
}

// A place that was taken away from is there for the undoing.
func TestUndoneFindsItsPlace(t *testing.T) {
	m, h := made(t, 14)
	m.Begin() // 2
	for i := range byte(14) {
		insert(t, h, 2, i+1, rid(9, uint16(i+1)))
	}
	m.Commit(2)
	h.Release(2)
	m.Begin() // 3
	m.Begin() // 4
	is(t, "Clear", h.Clear(3, rid(9, 5)), api.OK)
	is(t, "Clear", h.Clear(3, rid(9, 7)), api.OK)
	is(t, "Clear", h.Clear(4, rid(9, 6)), api.OK)
	insert(t, h, 4, 40, rid(9, 6))
	insert(t, h, 4, 41, rid(10, 1)) // the chain grows
	h.Release(9)
	insert(t, h, 4, 42, rid(10, 2))
	is(t, "Abort", m.Abort(3), api.OK)
	h.Release(3)
	holds(t, h, rid(9, 5), 5)
	holds(t, h, rid(9, 7), 7)
	is(t, "Abort", m.Abort(4), api.OK)
	h.Release(4)
	holds(t, h, rid(9, 6), 6)
	holds(t, h, rid(10, 1), 0)
	if l, err := alloc.Chain(m, 9); err != api.OK || !same(l, []uint32{9, 10}) {
		t.Errorf("the chain: %v", l)
	}
	m.Begin() // 5
	insert(t, h, 5, 50, rid(10, 1))
}

func TestGrowing(t *testing.T) {
	m, h := made(t, 12)
	n, _ := m.Begin()
	var want []api.RID
	for i := range 42 {
		r := rid(uint32(9+i/14), uint16(i%14+1))
		insert(t, h, n, byte(i+1), r)
		want = append(want, r)
	}
	if r, err := h.Insert(n, record(1)); r != (api.RID{}) || err != api.ErrAllocFull {
		t.Errorf("Insert where there is no page: %v, %v", r, err)
	}
	all(t, h, want...)
	for i, r := range want {
		holds(t, h, r, byte(i+1))
	}
	h.Clear(n, want[30])
	h.Clear(n, want[3])
	insert(t, h, n, 99, want[3])
	insert(t, h, n, 99, want[30])
}

func TestChainThatIsNone(t *testing.T) {
	m, h := made(t, 12)
	n, _ := m.Begin()
	m.Change(n, 9, 0, true, []byte{1, 77, 0, 0, 0})
	if r, err := h.Insert(n, record(1)); r != (api.RID{}) || err != api.ErrPoolNone {
		t.Errorf("Insert: %v, %v", r, err)
	}
	if l, err := h.All(); len(l) != 0 || err != api.ErrPoolNone {
		t.Errorf("All: %v, %v", l, err)
	}
}

// Reading, and what fails, makes no page other than on the disk.
func TestReadingChangesNothing(t *testing.T) {
	m, h := made(t, 12)
	n, _ := m.Begin()
	insert(t, h, n, 1, rid(9, 1))
	m.Commit(n)
	m.Pool().WriteAll()
	holds(t, h, rid(9, 1), 1)
	h.All()
	h.Insert(n, record(2))
	h.Set(n, rid(9, 1), record(2))
	h.Clear(n, rid(9, 1))
	if l := m.Pool().Dirty(); len(l) != 0 {
		t.Errorf("Dirty: %v", l)
	}
}
