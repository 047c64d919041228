package store_test

import (
	"fmt"
	"slices"
	"testing"

	"manciple/alloc"
	"manciple/api"
	"manciple/disk"
	"manciple/hash"
	"manciple/heap"
	"manciple/pool"
	"manciple/redo"
	"manciple/store"
	"manciple/txn"
	"manciple/wal"
)

// same says whether two values are the same; lists that are nil and lists that are empty are.
func same(a, b any) bool { return fmt.Sprint(a) == fmt.Sprint(b) }

func manager(t *testing.T, strips, pages, frames int) *txn.Manager {
	t.Helper()
	l, err := wal.New(disk.New(2+2*strips, 4*(pages+1)))
	if err != api.OK {
		t.Fatal(err)
	}
	p, err := pool.New(l, pages, frames)
	if err != api.OK {
		t.Fatal(err)
	}
	return txn.New(l, p)
}

func made(t *testing.T, pages int) *store.Store {
	t.Helper()
	s, err := store.New(manager(t, 2000, pages, 8))
	if err != api.OK {
		t.Fatal(err)
	}
	return s
}

func begin(t *testing.T, s *store.Store) uint32 {
	t.Helper()
	n, err := s.Begin()
	if err != api.OK {
		t.Fatal(err)
	}
	return n
}

func is(t *testing.T, what string, err, want api.Errno) {
	t.Helper()
	if err != want {
		t.Errorf("%s: %v, not %v", what, err, want)
	}
}

func key(kind uint8, who, what uint32) api.Key { return api.Key{Kind: kind, Who: who, What: what} }

func put(k api.Key, a, b uint64) api.Put { return api.Put{Key: k, Value: api.Value{A: a, B: b}} }

func gone(k api.Key) api.Put { return api.Put{Key: k, Gone: true} }

func holds(t *testing.T, s *store.Store, k api.Key, a, b uint64) {
	t.Helper()
	if v, ok := s.Get(k); v != (api.Value{A: a, B: b}) || !ok {
		t.Errorf("Get(%v): %v, %v", k, v, ok)
	}
}

func none(t *testing.T, s *store.Store, k api.Key) {
	t.Helper()
	if v, ok := s.Get(k); v != (api.Value{}) || ok {
		t.Errorf("Get(%v): %v, %v", k, v, ok)
	}
}

func all(t *testing.T, s *store.Store, want ...api.Cell) {
	t.Helper()
	if got, err := s.All(); err != api.OK || !same(got, want) {
		t.Errorf("All: %v, %v, not %v", got, err, want)
	}
}

func TestNew(t *testing.T) {
	m := manager(t, 64, 9, 8)
	if s, err := store.New(m); s != nil || err != api.ErrAllocFull {
		t.Errorf("New of 9 pages: %v", err)
	}
	m = manager(t, 64, 12, 8)
	s, err := store.New(m)
	if err != api.OK || s.Manager() != m || m.Next() != 2 {
		t.Fatalf("New: %v", err)
	}
	all(t, s)
	if _, err := store.New(m); err != api.OK || m.Next() != 2 {
		t.Error("New of what is laid already")
	}
}

func TestExample(t *testing.T) {
	s := made(t, 14)
	n := begin(t, s)
	if n != 2 {
		t.Errorf("Begin: %d", n)
	}
	k := key(1, 5, 0)
	is(t, "Put", s.Put(n, []api.Put{put(k, 7, 8)}), api.OK)
	holds(t, s, k, 7, 8)
	is(t, "Abort", s.Abort(n), api.OK)
	none(t, s, k)
}

// A thing's record has 25 bytes, in the heap; its key stands in the index.
func TestRecord(t *testing.T) {
	s := made(t, 14)
	n := begin(t, s)
	k := key(3, 0x01020304, 0x05060708)
	is(t, "Put", s.Put(n, []api.Put{put(k, 0x1122334455667788, 1<<64-2)}), api.OK)
	r, ok := hash.New(s.Manager()).Find(k)
	b, is := heap.New(s.Manager()).Get(r)
	if !ok || !is || r != (api.RID{Page: 9, Slot: 1}) || !same(b, []byte{3, 4, 3, 2, 1, 8, 7, 6, 5, 0x88, 0x77, 0x66, 0x55, 0x44, 0x33, 0x22, 0x11, 254, 255, 255, 255, 255, 255, 255, 255}) {
		t.Errorf("the record at %v: %v", r, b)
	}
	m := s.Manager()
	m.Change(n, 9, 1, true, b[:24])
	none(t, s, k)
	all(t, s, api.Cell{Key: k})
	m.Change(n, 9, 1, false, nil)
	none(t, s, k)
	if err := s.Put(n, []api.Put{put(k, 1, 1)}); err != api.ErrHeapNone {
		t.Errorf("Put of what has no record: %v", err)
	}
	if err := s.Put(n, []api.Put{gone(k)}); err != api.ErrHeapNone {
		t.Errorf("taking away what has no record: %v", err)
	}
}

func TestPut(t *testing.T) {
	s := made(t, 14)
	n := begin(t, s)
	a, b, c := key(1, 1, 0), key(1, 2, 0), key(2, 1, 0)
	is(t, "Put of nothing", s.Put(n, nil), api.OK)
	is(t, "Put", s.Put(n, []api.Put{put(c, 3, 0), put(a, 1, 1), put(b, 2, 0), put(a, 9, 9), gone(b), gone(key(8, 8, 8))}), api.OK)
	holds(t, s, a, 9, 9)
	none(t, s, b)
	holds(t, s, c, 3, 0)
	all(t, s, api.Cell{Key: a, Value: api.Value{A: 9, B: 9}, Is: true}, api.Cell{Key: c, Value: api.Value{A: 3}, Is: true})
	is(t, "Put", s.Put(n, []api.Put{gone(a), put(a, 0, 0)}), api.OK)
	holds(t, s, a, 0, 0)
	mark, err := s.Mark(n)
	if err != api.OK {
		t.Errorf("Mark: %v", err)
	}
	is(t, "Put", s.Put(n, []api.Put{gone(a), put(b, 5, 5), put(c, 6, 6)}), api.OK)
	is(t, "Back", s.Back(n, mark), api.OK)
	holds(t, s, a, 0, 0)
	none(t, s, b)
	holds(t, s, c, 3, 0)
	is(t, "Back to no mark", s.Back(n, 1<<60), api.ErrTxnMark)
	is(t, "Commit", s.Commit(n), api.OK)
	for _, txn := range []uint32{0, n, n + 1} {
		is(t, "Put without a transaction", s.Put(txn, []api.Put{put(a, 1, 1)}), api.ErrTxnNone)
		is(t, "Put of nothing without a transaction", s.Put(txn, nil), api.ErrTxnNone)
		is(t, "Commit", s.Commit(txn), api.ErrTxnNone)
		is(t, "Abort", s.Abort(txn), api.ErrTxnNone)
		is(t, "Back", s.Back(txn, 1), api.ErrTxnNone)
		if _, err := s.Mark(txn); err != api.ErrTxnNone {
			t.Errorf("Mark: %v", err)
		}
	}
	holds(t, s, a, 0, 0)
}

// Puts are done as a whole or not at all.
func TestPutThatFails(t *testing.T) {
	s := made(t, 12) // two pages may be laid behind the others
	n := begin(t, s)
	for i := range uint32(42) {
		if err := s.Put(n, []api.Put{put(key(1, i, 0), uint64(i), 0)}); err != api.OK {
			t.Fatalf("Put %d: %v", i, err)
		}
	}
	was, _ := s.All()
	err := s.Put(n, []api.Put{put(key(1, 3, 0), 99, 99), gone(key(1, 4, 0)), put(key(2, 1, 1), 1, 1), put(key(2, 1, 2), 1, 1)})
	is(t, "Put where there is no room", err, api.ErrAllocFull)
	all(t, s, was...)
	is(t, "Put", s.Put(n, []api.Put{gone(key(1, 4, 0)), put(key(2, 1, 1), 1, 1)}), api.OK)
	is(t, "Commit", s.Commit(n), api.OK)
}

// What a transaction took away keeps its place till it has ended.
func TestPlacesAreKept(t *testing.T) {
	s := made(t, 14)
	n := begin(t, s)
	s.Put(n, []api.Put{put(key(1, 1, 0), 1, 0)})
	s.Commit(n)
	for _, end := range []func(uint32) api.Errno{s.Abort, s.Commit} {
		a, b := begin(t, s), begin(t, s)
		s.Put(a, []api.Put{gone(key(1, 1, 0))})
		s.Put(b, []api.Put{put(key(1, 2, 0), 2, 0)})
		is(t, "the end", end(a), api.OK)
		s.Put(b, []api.Put{put(key(1, 3, 0), 3, 0)})
		r, _ := hash.New(s.Manager()).Find(key(1, 3, 0))
		if v, ok := s.Get(key(1, 1, 0)); ok && (v.A != 1 || r.Slot != 3) || !ok && r.Slot != 1 {
			t.Errorf("%v, %v, the third at %v", v, ok, r)
		}
		is(t, "Abort", s.Abort(b), api.OK)
	}
	none(t, s, key(1, 1, 0))
}

func TestAllByKeys(t *testing.T) {
	s := made(t, 40)
	n := begin(t, s)
	var want []api.Cell
	var puts []api.Put
	for _, kind := range []uint8{0, 1, 200} {
		for _, who := range []uint32{0, 1, 256, 1<<32 - 1} {
			for _, what := range []uint32{0, 2, 65536, 1<<32 - 1} {
				k := key(kind, who, what)
				want = append(want, api.Cell{Key: k, Value: api.Value{A: uint64(len(want))}, Is: true})
				puts = append(puts, put(k, uint64(len(puts)), 0))
			}
		}
	}
	slices.Reverse(puts)
	is(t, "Put", s.Put(n, puts), api.OK)
	all(t, s, want...)
	for page := range uint32(3) {
		s.Manager().Pool().Get(page)
	}
	s.Manager().Change(n, 5, 0, true, []byte{2, 99, 0, 0, 0})
	if l, err := s.All(); len(l) != 0 || err != api.ErrPoolNone {
		t.Errorf("All of no chain: %v", err)
	}
}

// A store is a map, through aborts, crashes and restarts.
func TestAnyUse(t *testing.T) {
	seed := uint32(1)
	next := func(n int) int {
		seed = seed*1664525 + 1013904223
		return int(seed>>8) % n
	}
	for range 30 {
		s, err := store.New(manager(t, 60, 30, 3))
		if err != api.OK {
			t.Fatal(err)
		}
		d := s.Manager().Log().Dev()
		want := map[api.Key]api.Value{}
		for range 6 {
			for range 4 {
				n := begin(t, s)
				then := map[api.Key]api.Value{}
				for k, v := range want {
					then[k] = v
				}
				full := false
				for range next(12) {
					p := put(key(uint8(next(2)), uint32(next(12)), 0), uint64(next(100)), 1)
					if next(3) == 0 {
						p = gone(p.Key)
					}
					if err := s.Put(n, []api.Put{p}); err == api.ErrWalFull {
						full = true
						break
					} else if err != api.OK {
						t.Fatalf("Put: %v", err)
					}
					if then[p.Key] = p.Value; p.Gone {
						delete(then, p.Key)
					}
				}
				if next(3) == 0 || full {
					is(t, "Abort", s.Abort(n), api.OK)
				} else {
					is(t, "Commit", s.Commit(n), api.OK)
					want = then
				}
			}
			n := begin(t, s) // one that the crash meets
			s.Put(n, []api.Put{put(key(9, 9, 9), 1, 1), gone(key(0, 1, 0))})
			s.Manager().Pool().WriteAll()
			d.Crash(nil)
			m, _, err := redo.Restart(d, 30, 3)
			if err != api.OK {
				t.Fatalf("Restart: %v", err)
			}
			if s, err = store.New(m); err != api.OK {
				t.Fatalf("New: %v", err)
			}
			got, err := s.All()
			if err != api.OK || len(got) != len(want) {
				t.Fatalf("All: %d of %d", len(got), len(want))
			}
			for _, c := range got {
				if v, ok := want[c.Key]; !ok || !c.Is || v != c.Value {
					t.Fatalf("%v, not %v", c, v)
				}
			}
		}
		if _, err := alloc.Fresh(s.Manager()); err != api.OK {
			t.Fatal(err)
		}
	}
}

// Behind its end a transaction keeps no places, neither of records nor of keys.
func TestPlacesAreGivenFree(t *testing.T) {
	s := made(t, 14)
	var keys []api.Key
	for who := uint32(1); len(keys) < 3; who++ {
		if k := key(1, who, 0); hash.Bucket(k) == 4 {
			keys = append(keys, k)
		}
	}
	slot := func(page uint32, at int) bool {
		p, _ := s.Manager().Pool().Get(page)
		_, ok := p.Get(at)
		s.Manager().Pool().Put(page, 0)
		return ok
	}
	n := begin(t, s)
	is(t, "Put", s.Put(n, []api.Put{put(keys[0], 1, 0)}), api.OK)
	is(t, "Commit", s.Commit(n), api.OK)
	n = begin(t, s)
	is(t, "Put", s.Put(n, []api.Put{gone(keys[0])}), api.OK)
	other := begin(t, s)
	is(t, "Put", s.Put(other, []api.Put{put(keys[1], 1, 0)}), api.OK)
	if slot(4, 1) || !slot(4, 2) || slot(9, 1) || !slot(9, 2) {
		t.Error("a place is kept till its transaction has ended")
	}
	is(t, "Commit", s.Commit(n), api.OK)
	is(t, "Put", s.Put(other, []api.Put{put(keys[2], 1, 0)}), api.OK)
	if !slot(4, 1) || slot(4, 3) || !slot(9, 1) || slot(9, 3) {
		t.Error("a place is free behind its transaction's end")
	}
	if s.Commit(n) != api.ErrTxnNone || s.Abort(n) != api.ErrTxnNone {
		t.Error("an end twice")
	}
}
