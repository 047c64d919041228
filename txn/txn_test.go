package txn_test

import (
	"bytes"
	"fmt"
	"math"
	"testing"

	"manciple/api"
	"manciple/disk"
	"manciple/pool"
	"manciple/txn"
	"manciple/wal"
)

// same says whether two values are the same; lists that are nil and lists that are empty are.
func same(a, b any) bool { return fmt.Sprint(a) == fmt.Sprint(b) }

// made is a manager over so many strips, pages and frames.
func made(t *testing.T, strips, pages, frames int) *txn.Manager {
	t.Helper()
	l, err := wal.New(disk.New(2+2*strips, 4*(pages+1)))
	if err != api.OK {
		t.Fatal(err)
	}
	p, err := pool.New(l, pages, frames)
	if err != api.OK {
		t.Fatal(err)
	}
	return txn.New(l, p)
}

func begin(t *testing.T, m *txn.Manager) uint32 {
	t.Helper()
	n, err := m.Begin()
	if err != api.OK {
		t.Fatalf("Begin: %v", err)
	}
	return n
}

func is(t *testing.T, what string, err, want api.Errno) {
	t.Helper()
	if err != want {
		t.Errorf("%s: %v, not %v", what, err, want)
	}
}

func change(t *testing.T, m *txn.Manager, n, page uint32, slot int, data string) {
	t.Helper()
	is(t, "Change", m.Change(n, page, slot, data != "", []byte(data)), api.OK)
}

// slot is what a slot of a page holds.
func slot(t *testing.T, m *txn.Manager, page uint32, slot int) string {
	t.Helper()
	p, err := m.Pool().Get(page)
	if err != api.OK {
		t.Fatalf("Get(%d): %v", page, err)
	}
	b, _ := p.Get(slot)
	m.Pool().Put(page, 0)
	return string(b)
}

func holds(t *testing.T, m *txn.Manager, page uint32, at int, want string) {
	t.Helper()
	if got := slot(t, m, page, at); got != want {
		t.Errorf("slot %d of page %d holds %q, not %q", at, page, got, want)
	}
}

// last are the last n records of the log.
func last(m *txn.Manager, n int) []api.Entry {
	e := m.Log().Entries(0)
	return e[max(0, len(e)-n):]
}

// active checks the only transaction.
func active(t *testing.T, m *txn.Manager, last, undo uint64, state uint8) {
	t.Helper()
	a := m.Active()
	if len(a) != 1 || a[0].Last != last || a[0].Undo != undo || a[0].State != state {
		t.Errorf("Active: %v, not last %d, undo %d, state %d", a, last, undo, state)
	}
}

func TestBegin(t *testing.T) {
	m := made(t, 64, 4, 3)
	if m.Next() != 1 || len(m.Active()) != 0 || m.Reserved() != 0 || m.Pool().Log() != m.Log() {
		t.Error("New")
	}
	if n := begin(t, m); n != 1 || m.Next() != 2 || m.Reserved() != 54 {
		t.Error("the first Begin")
	}
	active(t, m, 1, 1, api.TxnRuns)
	begin(t, m)
	if !same(m.Active(), []api.Active{{Txn: 1, Last: 1, Undo: 1, State: 1}, {Txn: 2, Last: 28, Undo: 28, State: 1}}) || m.Reserved() != 108 {
		t.Errorf("Active: %v", m.Active())
	}
	if !same(m.Log().Entries(0), []api.Entry{{LSN: 1, Rec: api.Rec{Kind: api.RecBegin, Txn: 1}}, {LSN: 28, Rec: api.Rec{Kind: api.RecBegin, Txn: 2}}}) {
		t.Error("the records")
	}
	for len(m.Active()) < 64 {
		begin(t, m)
	}
	n, err := m.Begin()
	if n != 0 || err != api.ErrLimit {
		t.Errorf("the 65th Begin: %d, %v", n, err)
	}
	is(t, "Commit", m.Commit(7), api.OK)
	if n := begin(t, m); n != 65 {
		t.Errorf("Begin behind a Commit: %d", n)
	}
}

func TestBeginAtTheEnds(t *testing.T) {
	m := made(t, 64, 4, 3)
	m = txn.Load(m.Log(), m.Pool(), nil, math.MaxUint32-1)
	if n := begin(t, m); n != math.MaxUint32-1 {
		t.Errorf("Begin: %d", n)
	}
	if n, err := m.Begin(); n != 0 || err != api.ErrLimit || m.Next() != math.MaxUint32 {
		t.Errorf("the last number: %d, %v", n, err)
	}
	m = txn.Load(m.Log(), m.Pool(), []api.Active{{Txn: 5, State: 1}}, 5)
	if _, err := m.Begin(); err != api.ErrLimit || m.Next() != 5 {
		t.Errorf("a number that has not ended: %v", err)
	}
	m.End(5)
	if n := begin(t, m); n != 5 {
		t.Errorf("a number that has ended: %d", n)
	}
	m = txn.Load(m.Log(), m.Pool(), nil, 0)
	if n := begin(t, m); n != 0 || m.Next() != 1 {
		t.Errorf("Begin of 0: %d", n)
	}
}

func TestBeginNeedsRoom(t *testing.T) {
	m := made(t, 8, 4, 3) // 1016 bytes
	n := 0
	for {
		got, err := m.Begin()
		if err != api.OK {
			if is(t, "Begin", err, api.ErrWalFull); got != 0 {
				t.Errorf("Begin: %d beside an error", got)
			}
			break
		}
		n++
	}
	if n != 1016/81 || m.Next() != uint32(n+1) || m.Reserved() != uint64(54*n) || len(m.Active()) != n {
		t.Errorf("%d transactions", n)
	}
	for _, a := range m.Active() {
		is(t, "Commit", m.Commit(a.Txn), api.OK)
	}
}

func TestExample(t *testing.T) {
	m := made(t, 64, 4, 3)
	begin(t, m)
	change(t, m, 1, 0, 0, "a")
	holds(t, m, 0, 0, "a")
	if m.Reserved() != 54+36+1 {
		t.Errorf("Reserved: %d", m.Reserved())
	}
	mark, err := m.Mark(1)
	if err != api.OK || mark != 28 {
		t.Errorf("Mark: %d, %v", mark, err)
	}
	change(t, m, 1, 0, 0, "bb")
	change(t, m, 1, 2, 5, "c")
	is(t, "Back", m.Back(1, mark), api.OK)
	holds(t, m, 0, 0, "a")
	holds(t, m, 2, 5, "")
	if m.Reserved() != 54+36+1 {
		t.Errorf("Reserved behind Back: %d", m.Reserved())
	}
	is(t, "Abort", m.Abort(1), api.OK)
	holds(t, m, 0, 0, "")
	if len(m.Active()) != 0 || m.Reserved() != 0 {
		t.Error("behind Abort")
	}
}

func TestErrors(t *testing.T) {
	m := made(t, 64, 4, 3)
	begin(t, m)
	begin(t, m)
	is(t, "Commit", m.Commit(2), api.OK)
	for _, n := range []uint32{0, 2, 3, math.MaxUint32} {
		mark, err := m.Mark(n)
		undone, e := m.Undo(n)
		if mark != 0 || undone || e != api.ErrTxnNone {
			t.Errorf("Mark, Undo of %d", n)
		}
		for what, err := range map[string]api.Errno{
			"Change": m.Change(n, 99, 0, true, nil), "Commit": m.Commit(n), "Abort": m.Abort(n), "Mark": err,
			"Back": m.Back(n, 1), "Nest": m.Nest(n, 1), "End": m.End(n),
		} {
			is(t, what, err, api.ErrTxnNone)
		}
	}
	was := m.Log().End()
	is(t, "Change of no page", m.Change(1, 4, 0, true, []byte("a")), api.ErrPoolNone)
	is(t, "Change of no slot", m.Change(1, 0, 40, true, []byte("a")), api.ErrPageSlot)
	is(t, "Change of a slot below 0", m.Change(1, 0, -1, true, []byte("a")), api.ErrPageSlot)
	is(t, "Change to nothing", m.Change(1, 0, 0, true, nil), api.ErrPageSlot)
	is(t, "Change to too much", m.Change(1, 0, 0, true, make([]byte, 65)), api.ErrPageSlot)
	is(t, "Change of nothing to nothing", m.Change(1, 0, 0, false, []byte("a")), api.OK)
	is(t, "Change of no slot to nothing", m.Change(1, 0, 65536, false, nil), api.OK)
	if m.Log().End() != was || m.Reserved() != 54 || len(m.Pool().Dirty()) != 0 {
		t.Error("something was logged, or done")
	}
	for slot := range 6 {
		change(t, m, 1, 0, slot, string(make([]byte, 64)))
	}
	was = m.Log().End()
	is(t, "Change of a full page", m.Change(1, 0, 9, true, make([]byte, 30)), api.ErrPageFull)
	if m.Log().End() != was {
		t.Error("a change that can't be done was logged")
	}
	free(t, m, 0)
	for n := range uint32(3) {
		m.Pool().Get(n)
	}
	is(t, "Change where all frames are pinned", m.Change(1, 3, 0, true, []byte("a")), api.ErrPoolFull)
	for n := range uint32(3) {
		m.Pool().Put(n, 0)
	}
	change(t, m, 1, 3, 0, "a")
}

// free checks that a page is not pinned any more.
func free(t *testing.T, m *txn.Manager, page uint32) {
	t.Helper()
	if m.Pool().Put(page, 0) {
		t.Errorf("page %d was not put back", page)
	}
}

func TestChange(t *testing.T) {
	m := made(t, 64, 4, 3)
	begin(t, m)
	change(t, m, 1, 2, 7, "ab")  // 28
	change(t, m, 1, 2, 7, "xyz") // 28 + 38
	change(t, m, 1, 2, 7, "")    // 66 + 41
	free(t, m, 2)
	want := []api.Entry{
		{LSN: 28, Rec: api.Rec{Kind: api.RecChange, Txn: 1, Prev: 1, Change: api.Change{Page: 2, Slot: 7, Has: true, After: []byte("ab")}}},
		{LSN: 66, Rec: api.Rec{Kind: api.RecChange, Txn: 1, Prev: 28, Change: api.Change{Page: 2, Slot: 7, Had: true, Has: true, Before: []byte("ab"), After: []byte("xyz")}}},
		{LSN: 107, Rec: api.Rec{Kind: api.RecChange, Txn: 1, Prev: 66, Change: api.Change{Page: 2, Slot: 7, Had: true, Before: []byte("xyz")}}},
	}
	if !same(last(m, 3), want) {
		t.Errorf("the records: %v", last(m, 3))
	}
	active(t, m, 107, 107, api.TxnRuns)
	if m.Reserved() != 54+38+41+39 {
		t.Errorf("Reserved: %d", m.Reserved())
	}
	p, _ := m.Pool().Get(2)
	if p.LSN() != 107 || len(p.Slots()) != 0 || !same(m.Pool().Dirty(), []api.Dirty{{Page: 2, First: 28}}) {
		t.Errorf("the page: %d, %v", p.LSN(), m.Pool().Dirty())
	}
	m.Pool().Put(2, 0)
	is(t, "Change of nothing to nothing", m.Change(1, 2, 7, false, nil), api.OK)
	if m.Log().Lasts() != 1 {
		t.Error("a change makes the log last")
	}
	data := []byte("mine")
	m.Change(1, 1, 1, true, data)
	data[0] = 'X'
	holds(t, m, 1, 1, "mine")
}

func TestUndo(t *testing.T) {
	m := made(t, 64, 4, 3)
	begin(t, m)
	change(t, m, 1, 2, 7, "ab")  // 28
	change(t, m, 1, 2, 7, "xyz") // 66
	step := func(want bool, undo uint64, holding string) {
		t.Helper()
		if ok, err := m.Undo(1); ok != want || err != api.OK {
			t.Errorf("Undo: %v, %v", ok, err)
		}
		if a := m.Active(); a[0].Undo != undo {
			t.Errorf("UNDO: %d, not %d", a[0].Undo, undo)
		}
		holds(t, m, 2, 7, holding)
	}
	step(true, 28, "ab")
	if !same(last(m, 1), []api.Entry{{LSN: 107, Rec: api.Rec{Kind: api.RecUndo, Txn: 1, Prev: 66, Next: 28,
		Change: api.Change{Page: 2, Slot: 7, Had: true, Has: true, Before: []byte("xyz"), After: []byte("ab")}}}}) {
		t.Errorf("the record: %v", last(m, 1))
	}
	if p, _ := m.Pool().Get(2); p.LSN() != 107 {
		t.Errorf("the page's LSN: %d", p.LSN())
	}
	m.Pool().Put(2, 0)
	free(t, m, 2)
	if m.Reserved() != 54+38 {
		t.Errorf("Reserved: %d", m.Reserved())
	}
	change(t, m, 1, 2, 7, "new") // 148, its Prev is the RecUndo at 107
	step(true, 107, "ab")
	step(true, 28, "ab") // past the RecUndo
	if m.Reserved() != 54+38 {
		t.Errorf("Reserved: %d", m.Reserved())
	}
	step(true, 1, "")
	end := m.Log().End()
	step(false, 0, "") // the RecBegin
	step(false, 0, "")
	if m.Log().End() != end || m.Reserved() != 54 {
		t.Error("the end of the way")
	}
	if mark, err := m.Mark(1); mark != 0 || err != api.OK {
		t.Error("Mark is UNDO")
	}
	change(t, m, 1, 2, 7, "again")
	is(t, "Commit", m.Commit(1), api.OK)
	holds(t, m, 2, 7, "again")
}

func TestUndoNeedsAFrame(t *testing.T) {
	m := made(t, 64, 4, 3)
	begin(t, m)
	change(t, m, 1, 3, 0, "a")
	m.Pool().Get(3)
	m.Pool().Put(3, 0)
	for n := range uint32(3) {
		if _, err := m.Pool().Get(n); err != api.OK {
			t.Fatal(err)
		}
	}
	if ok, err := m.Undo(1); ok || err != api.ErrPoolFull {
		t.Errorf("Undo: %v, %v", ok, err)
	}
	is(t, "Back", m.Back(1, 1), api.ErrPoolFull)
	is(t, "Abort", m.Abort(1), api.ErrPoolFull)
	if a := m.Active(); len(a) != 1 || a[0].State != api.TxnAborts || a[0].Undo != 28 {
		t.Errorf("Active: %v", a)
	}
	is(t, "Abort of what aborts", m.Abort(1), api.ErrTxnNone)
	is(t, "Commit of what aborts", m.Commit(1), api.ErrTxnNone)
	is(t, "Change of what aborts", m.Change(1, 0, 0, true, []byte("a")), api.ErrTxnNone)
	is(t, "Back of what aborts", m.Back(1, 1), api.ErrTxnNone)
	is(t, "Nest of what aborts", m.Nest(1, 1), api.ErrTxnNone)
	_, err := m.Mark(1)
	is(t, "Mark of what aborts", err, api.ErrTxnNone)
	m.Pool().Put(0, 0)
	if ok, err := m.Undo(1); !ok || err != api.OK {
		t.Errorf("Undo: %v, %v", ok, err)
	}
	is(t, "End", m.End(1), api.OK)
	if len(m.Active()) != 0 {
		t.Error("End")
	}
}

func TestBack(t *testing.T) {
	m := made(t, 64, 4, 3)
	begin(t, m)
	begin(t, m)
	change(t, m, 2, 1, 0, "a") // 55
	change(t, m, 2, 1, 1, "b") // 92
	change(t, m, 1, 3, 0, "z") // 129
	change(t, m, 2, 1, 2, "c") // 166
	for _, mark := range []uint64{0, 1, 54, 56, 129, 203, math.MaxUint64} {
		is(t, "Back", m.Back(2, mark), api.ErrTxnMark)
		is(t, "Nest", m.Nest(2, mark), api.ErrTxnMark)
	}
	is(t, "Back to where it is", m.Back(2, 166), api.OK)
	if m.Log().End() != 203 {
		t.Error("something was undone")
	}
	is(t, "Back", m.Back(2, 55), api.OK)
	holds(t, m, 1, 0, "a")
	holds(t, m, 1, 1, "")
	holds(t, m, 1, 2, "")
	is(t, "Back to what was undone", m.Back(2, 92), api.ErrTxnMark)
	if mark, _ := m.Mark(2); mark != 55 {
		t.Errorf("Mark: %d", mark)
	}
	change(t, m, 2, 1, 1, "d")
	is(t, "Back to the RecBegin", m.Back(2, 28), api.OK)
	holds(t, m, 1, 0, "")
	holds(t, m, 1, 1, "")
	holds(t, m, 3, 0, "z")
	change(t, m, 2, 1, 3, "e")
	is(t, "Commit", m.Commit(2), api.OK)
	holds(t, m, 1, 3, "e")
}

func TestNest(t *testing.T) {
	m := made(t, 64, 4, 3)
	begin(t, m)
	change(t, m, 1, 1, 0, "a") // 28
	change(t, m, 1, 2, 0, "b") // 65
	change(t, m, 1, 2, 1, "c") // 102
	is(t, "Nest", m.Nest(1, 28), api.OK)
	if !same(last(m, 1), []api.Entry{{LSN: 139, Rec: api.Rec{Kind: api.RecUndo, Txn: 1, Prev: 102, Next: 28}}}) {
		t.Errorf("the record: %v", last(m, 1))
	}
	active(t, m, 139, 28, api.TxnRuns)
	if m.Reserved() != 54+37 {
		t.Errorf("Reserved: %d", m.Reserved())
	}
	is(t, "Back to what is nested", m.Back(1, 65), api.ErrTxnMark)
	change(t, m, 1, 3, 0, "d")
	is(t, "Nest within", m.Nest(1, 28), api.OK)
	change(t, m, 1, 3, 1, "e")
	is(t, "Abort", m.Abort(1), api.OK)
	for _, c := range []struct {
		page uint32
		slot int
		want string
	}{{1, 0, ""}, {2, 0, "b"}, {2, 1, "c"}, {3, 0, "d"}, {3, 1, ""}} {
		holds(t, m, c.page, c.slot, c.want)
	}
	n := begin(t, m)
	mark, _ := m.Mark(n)
	change(t, m, n, 1, 5, "f")
	is(t, "Nest to the RecBegin", m.Nest(n, mark), api.OK)
	is(t, "Abort", m.Abort(n), api.OK)
	holds(t, m, 1, 5, "f")
}

func TestCommit(t *testing.T) {
	m := made(t, 64, 4, 3)
	begin(t, m)
	change(t, m, 1, 1, 0, "a")
	is(t, "Commit", m.Commit(1), api.OK)
	if !same(last(m, 2), []api.Entry{{LSN: 65, Rec: api.Rec{Kind: api.RecCommit, Txn: 1, Prev: 28}}, {LSN: 92, Rec: api.Rec{Kind: api.RecEnd, Txn: 1, Prev: 65}}}) {
		t.Errorf("the records: %v", last(m, 2))
	}
	if m.Log().Lasts() != 92 || m.Log().End() != 119 || len(m.Active()) != 0 || m.Reserved() != 0 {
		t.Errorf("the RecCommit lasts, the RecEnd need not: %d", m.Log().Lasts())
	}
	if len(m.Pool().Dirty()) != 1 {
		t.Error("pages need not be written at a commit")
	}
}

func TestAbort(t *testing.T) {
	m := made(t, 64, 4, 3)
	begin(t, m)
	change(t, m, 1, 1, 0, "a")
	is(t, "Abort", m.Abort(1), api.OK)
	want := []api.Entry{
		{LSN: 65, Rec: api.Rec{Kind: api.RecAbort, Txn: 1, Prev: 28}},
		{LSN: 92, Rec: api.Rec{Kind: api.RecUndo, Txn: 1, Prev: 65, Next: 1, Change: api.Change{Page: 1, Had: true, Before: []byte("a")}}},
		{LSN: 129, Rec: api.Rec{Kind: api.RecEnd, Txn: 1, Prev: 92}},
	}
	if !same(last(m, 3), want) || m.Log().Lasts() != 1 {
		t.Errorf("the records: %v", last(m, 3))
	}
	begin(t, m)
	is(t, "End", m.End(2), api.OK)
	if !same(last(m, 1)[0].Rec, api.Rec{Kind: api.RecEnd, Txn: 2, Prev: 156}) || len(m.Active()) != 0 {
		t.Errorf("End: %v", last(m, 1))
	}
}

func TestFullLog(t *testing.T) {
	m := made(t, 8, 4, 3) // 1016 bytes
	begin(t, m)
	n := 0
	for {
		err := m.Change(1, uint32(n%4), n/4, true, []byte{byte(n + 1)})
		if err != api.OK {
			is(t, "Change", err, api.ErrWalFull)
			break
		}
		n++
	}
	if n != (1016-27-54)/74 {
		t.Errorf("%d changes", n)
	}
	for page := range uint32(4) {
		free(t, m, page)
		p, _ := m.Pool().Get(page)
		if want := uint64(28 + 37*(n-4+int(page))); p.LSN() != want {
			t.Errorf("page %d is as of %d, not %d", page, p.LSN(), want)
		}
		m.Pool().Put(page, 0)
	}
	holds(t, m, uint32(n%4), n/4, "")
	active(t, m, uint64(28+37*(n-1)), uint64(28+37*(n-1)), api.TxnRuns)
	if _, err := m.Log().Append(api.Rec{Kind: api.RecUndo}, m.Reserved()); err != api.OK {
		t.Fatal(err) // so that fewer than 27 bytes are not reserved
	}
	_, err := m.Begin()
	is(t, "Begin", err, api.ErrWalFull)
	is(t, "Nest", m.Nest(1, 1), api.ErrWalFull)
	is(t, "Check", m.Check(), api.ErrWalFull)
	if m.Log().Check() != 0 {
		t.Error("a Check that has no room")
	}
	is(t, "Abort", m.Abort(1), api.OK)
	for i := range n {
		holds(t, m, uint32(i%4), i/4, "")
	}
}

func TestLogThatOthersFill(t *testing.T) {
	m := made(t, 8, 4, 3)
	begin(t, m)
	change(t, m, 1, 0, 0, "a")
	for m.Log().Room() >= 27 {
		m.Log().Append(api.Rec{Kind: api.RecCheck}, 0)
	}
	if ok, err := m.Undo(1); ok || err != api.ErrWalFull {
		t.Errorf("Undo: %v, %v", ok, err)
	}
	free(t, m, 0)
	holds(t, m, 0, 0, "a")
	if p, _ := m.Pool().Get(0); p.LSN() != 28 {
		t.Errorf("the page is as of %d", p.LSN())
	}
	m.Pool().Put(0, 0)
	is(t, "Commit", m.Commit(1), api.ErrWalFull)
	is(t, "Abort", m.Abort(1), api.ErrWalFull)
	is(t, "End", m.End(1), api.ErrWalFull)
	is(t, "Back", m.Back(1, 1), api.ErrWalFull)
	active(t, m, 28, 28, api.TxnRuns)
}

func TestCheck(t *testing.T) {
	m := made(t, 64, 4, 3)
	begin(t, m)
	change(t, m, 1, 2, 0, "a")
	begin(t, m)
	is(t, "Check", m.Check(), api.OK)
	want := []api.Entry{
		{LSN: 92, Rec: api.Rec{Kind: api.RecCheck}},
		{LSN: 119, Rec: api.Rec{Kind: api.RecTables, Txns: []api.Active{{Txn: 1, Last: 28, Undo: 28, State: 1}, {Txn: 2, Last: 65, Undo: 65, State: 1}}, Pages: []api.Dirty{{Page: 2, First: 28}}}},
	}
	if !same(last(m, 2), want) || m.Log().Check() != 92 || m.Log().Lasts() != m.Log().End() {
		t.Errorf("the records: %v, %d", last(m, 2), m.Log().Check())
	}
	m = txn.Load(m.Log(), m.Pool(), []api.Active{{Txn: 1, State: 9}}, 2)
	end := m.Log().End()
	is(t, "Check of no state", m.Check(), api.ErrRecForm)
	if m.Log().End() != end {
		t.Error("something was logged")
	}
}

// Check keeps what is reserved free.
func TestCheckNeedsRoom(t *testing.T) {
	for _, c := range []struct {
		spare uint64
		want  api.Errno
	}{{27 + 29 + 21 + 12 + 91, api.OK}, {27 + 29 + 21 + 12 + 90, api.ErrWalFull}} {
		m := made(t, 16, 4, 3)
		begin(t, m)
		change(t, m, 1, 0, 0, "a")
		for m.Log().Room() > c.spare {
			size := int(min(m.Log().Room()-c.spare, 100)) - 36
			if size < 0 {
				break
			}
			c := api.Change{Has: true, After: make([]byte, size)}
			m.Log().Append(api.Rec{Kind: api.RecUndo, Change: c}, 0)
		}
		if m.Log().Room() != c.spare {
			t.Fatalf("room %d", m.Log().Room())
		}
		is(t, "Check", m.Check(), c.want)
		is(t, "Abort", m.Abort(1), api.OK)
	}
}

func TestLoad(t *testing.T) {
	m := made(t, 64, 4, 3)
	begin(t, m)
	begin(t, m)
	change(t, m, 1, 1, 0, "a")   // 55
	change(t, m, 1, 1, 1, "bb")  // 92
	m.Undo(1)                    // 130
	change(t, m, 1, 1, 2, "ccc") // 168
	change(t, m, 2, 2, 0, "d")   // 207
	change(t, m, 1, 1, 3, "e")   // 244
	m.Nest(1, 168)               // 281
	was, reserved := m.Active(), m.Reserved()
	l := append(m.Active(), api.Active{Txn: 1, State: 3})
	m = txn.Load(m.Log(), m.Pool(), l, 40)
	l[0].Undo = 7
	if !same(m.Active(), was) || m.Reserved() != reserved || m.Next() != 40 {
		t.Errorf("Load: %v, %d", m.Active(), m.Reserved())
	}
	is(t, "Back to what was nested", m.Back(1, 244), api.ErrTxnMark)
	is(t, "Back to what was undone", m.Back(1, 92), api.ErrTxnMark)
	is(t, "Back to another's RecBegin", m.Back(1, 28), api.ErrTxnMark)
	is(t, "Back to another's change", m.Back(1, 207), api.ErrTxnMark)
	is(t, "Back", m.Back(1, 55), api.OK)
	holds(t, m, 1, 2, "")
	holds(t, m, 1, 3, "e")
	is(t, "Back to the RecBegin", m.Back(1, 1), api.OK)
	holds(t, m, 1, 0, "")
	is(t, "Abort", m.Abort(2), api.OK)
	holds(t, m, 2, 0, "")
	if n := begin(t, m); n != 40 {
		t.Errorf("Begin: %d", n)
	}
}

// Ways that lead nowhere, or back to themselves, end.
func TestLoadOfStrangeWays(t *testing.T) {
	m := made(t, 64, 4, 3)
	c := api.Change{Page: 1, Had: true, Before: []byte("q"), Has: true, After: []byte("r")}
	own, _ := m.Log().Append(api.Rec{Kind: api.RecChange, Prev: 1, Change: c}, 0) // its own Prev
	late, _ := m.Log().Append(api.Rec{Kind: api.RecChange, Prev: 1 << 60, Change: c}, 0)
	undo, _ := m.Log().Append(api.Rec{Kind: api.RecUndo, Next: 1 << 60}, 0)
	check, _ := m.Log().Append(api.Rec{Kind: api.RecCheck}, 0)
	commit, _ := m.Log().Append(api.Rec{Kind: api.RecCommit, Prev: own, Next: own}, 0)
	behind, _ := m.Log().Append(api.Rec{Kind: api.RecChange, Prev: check, Change: c}, 0)
	for _, w := range []struct {
		undo    uint64
		changes uint64
	}{{own, 1}, {late, 1}, {undo, 0}, {check, 0}, {commit, 0}, {behind, 1}, {0, 0}, {2, 0}, {1 << 63, 0}} {
		m := txn.Load(m.Log(), m.Pool(), []api.Active{{Txn: 7, Undo: w.undo, State: api.TxnRuns}}, 8)
		if m.Reserved() != 54+w.changes*38 {
			t.Errorf("UNDO %d: Reserved %d", w.undo, m.Reserved())
		}
		is(t, "Back", m.Back(7, 0), api.ErrTxnMark)
		for i := 0; ; i++ {
			ok, err := m.Undo(7)
			if err != api.OK || i > 2 {
				t.Fatalf("UNDO %d: %v", w.undo, err)
			}
			if !ok {
				break
			}
		}
		if m.Active()[0].Undo != 0 || m.Reserved() != 54 {
			t.Errorf("UNDO %d: %v", w.undo, m.Active())
		}
	}
	if e := last(m, 1); e[0].Rec.Kind != api.RecUndo || e[0].Rec.Next != check {
		t.Errorf("the last record: %v", e)
	}
}

// What is undone is as it was, and there is always room for it.
func TestAnyUse(t *testing.T) {
	seed := uint32(1)
	next := func(n int) int {
		seed = seed*1664525 + 1013904223
		return int(seed>>8) % n
	}
	for range 150 {
		m := made(t, 12, 3, 3)
		want := map[[2]int]string{} // what is there
		type mark struct {
			place uint64
			was   map[[2]int]string
		}
		marks := map[uint32][]mark{}
		// each transaction has slots of its own: the locks of those above see to that
		copyOf := func(n uint32) map[[2]int]string {
			c := map[[2]int]string{}
			for k, v := range want {
				if k[1]%3 == int(n)%3 {
					c[k] = v
				}
			}
			return c
		}
		back := func(n uint32, was map[[2]int]string) {
			for k := range copyOf(n) {
				delete(want, k)
			}
			for k, v := range was {
				want[k] = v
			}
		}
		for range 60 {
			live := m.Active()
			if len(live) < 3 && next(4) == 0 {
				taken := map[uint32]bool{}
				for _, a := range live {
					taken[a.Txn%3] = true
				}
				if taken[m.Next()%3] {
					continue
				}
				if n, err := m.Begin(); err == api.OK {
					place, _ := m.Mark(n)
					marks[n] = []mark{{place, copyOf(n)}}
				}
				continue
			}
			if len(live) == 0 {
				continue
			}
			n := live[next(len(live))].Txn
			switch next(8) {
			case 0:
				is(t, "Commit", m.Commit(n), api.OK)
			case 1:
				is(t, "Abort", m.Abort(n), api.OK)
				back(n, marks[n][0].was)
			case 2:
				place, _ := m.Mark(n)
				marks[n] = append(marks[n], mark{place, copyOf(n)})
			case 3:
				i := next(len(marks[n]))
				is(t, "Back", m.Back(n, marks[n][i].place), api.OK)
				back(n, marks[n][i].was)
				marks[n] = marks[n][:i+1]
			default:
				k := [2]int{next(3), next(4)*3 + int(n)%3}
				data := string(bytes.Repeat([]byte{byte('a' + next(26))}, next(20)))
				err := m.Change(n, uint32(k[0]), k[1], data != "", []byte(data))
				if err == api.OK {
					if want[k] = data; data == "" {
						delete(want, k)
					}
				} else if err != api.ErrWalFull {
					t.Fatalf("Change: %v", err)
				}
			}
			if m.Reserved() > m.Log().Room() {
				t.Fatal("more is reserved than there is room")
			}
			if next(10) == 0 {
				m.Pool().Write(uint32(next(3)))
			}
		}
		for _, a := range m.Active() {
			is(t, "Abort", m.Abort(a.Txn), api.OK)
			back(a.Txn, marks[a.Txn][0].was)
		}
		for page := range uint32(3) {
			for at := range 12 {
				holds(t, m, page, at, want[[2]int{int(page), at}])
			}
			free(t, m, page)
		}
	}
}

// What is reserved is just enough for either end.
func TestJustEnoughRoom(t *testing.T) {
	for _, commits := range []bool{true, false} {
		m := made(t, 8, 4, 3)
		begin(t, m)
		change(t, m, 1, 0, 0, "abc")
		change(t, m, 1, 1, 0, "de")
		spend(t, m, m.Reserved())
		if commits {
			is(t, "Commit", m.Commit(1), api.OK)
			holds(t, m, 0, 0, "abc")
			if m.Log().Room() != 39+38 {
				t.Errorf("room for %d bytes", m.Log().Room())
			}
		} else {
			is(t, "Abort", m.Abort(1), api.OK)
			holds(t, m, 0, 0, "")
			if m.Log().Room() != 0 {
				t.Errorf("room for %d bytes", m.Log().Room())
			}
		}
	}
}

// spend lets others fill the log till just so many bytes are left.
func spend(t *testing.T, m *txn.Manager, room uint64) {
	t.Helper()
	for left := m.Log().Room() - room; left > 0; left = m.Log().Room() - room {
		if left > 200 {
			left = 100
		} else if left > 100 {
			left /= 2
		}
		c := api.Change{Has: true, After: make([]byte, left-36)}
		if _, err := m.Log().Append(api.Rec{Kind: api.RecUndo, Change: c}, 0); err != api.OK {
			t.Fatal(err)
		}
	}
}

// Where others filled the log, what has room is logged, and nothing more is done.
func TestRoomForSomeRecords(t *testing.T) {
	for _, c := range []struct {
		room  uint64
		end   func(*txn.Manager) api.Errno
		kind  uint8
		state uint8
	}{
		{27, func(m *txn.Manager) api.Errno { return m.Commit(1) }, api.RecCommit, 0},
		{27, func(m *txn.Manager) api.Errno { return m.Abort(1) }, api.RecAbort, api.TxnAborts},
		{27 + 37, func(m *txn.Manager) api.Errno { return m.Abort(1) }, api.RecUndo, api.TxnAborts},
	} {
		m := made(t, 8, 4, 3)
		begin(t, m)
		change(t, m, 1, 0, 0, "a")
		spend(t, m, c.room)
		is(t, "the end", c.end(m), api.ErrWalFull)
		a := m.Active()
		if len(a) != 1 || c.state != 0 && a[0].State != c.state || last(m, 1)[0].Rec.Kind != c.kind || a[0].Last != last(m, 1)[0].LSN || m.Log().Room() != 0 {
			t.Errorf("room for %d bytes: %v, %v", c.room, a, last(m, 1))
		}
		if c.kind == api.RecCommit && m.Log().Lasts() != m.Log().End() {
			t.Error("the RecCommit does not last")
		}
		free(t, m, 0)
	}
	m := made(t, 8, 4, 3)
	begin(t, m)
	change(t, m, 1, 0, 0, "a")
	spend(t, m, 37)
	if ok, err := m.Undo(1); !ok || err != api.OK {
		t.Errorf("Undo: %v, %v", ok, err)
	}
	holds(t, m, 0, 0, "")
}
