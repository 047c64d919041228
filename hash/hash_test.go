package hash_test

import (
	"bytes"
	"fmt"
	"hash/crc32"
	"testing"

	"manciple/alloc"
	"manciple/api"
	"manciple/disk"
	"manciple/hash"
	"manciple/pool"
	"manciple/txn"
	"manciple/wal"
)

// same says whether two values are the same; lists that are nil and lists that are empty are.
func same(a, b any) bool { return fmt.Sprint(a) == fmt.Sprint(b) }

func made(t *testing.T, pages int) (*txn.Manager, *hash.Index) {
	t.Helper()
	l, err := wal.New(disk.New(2002, 4*(pages+1)))
	if err != api.OK {
		t.Fatal(err)
	}
	p, err := pool.New(l, pages, 3)
	if err != api.OK {
		t.Fatal(err)
	}
	m := txn.New(l, p)
	if err := alloc.Setup(m); err != api.OK {
		t.Fatal(err)
	}
	return m, hash.New(m)
}

func rid(page uint32, slot uint16) api.RID { return api.RID{Page: page, Slot: slot} }

// inBucket are n keys of one chain.
func inBucket(root uint32, n int) []api.Key {
	var l []api.Key
	for who := uint32(0); len(l) < n; who++ {
		if k := (api.Key{Kind: 3, Who: who, What: 7}); hash.Bucket(k) == root {
			l = append(l, k)
		}
	}
	return l
}

func find(t *testing.T, x *hash.Index, k api.Key, want api.RID, is bool) {
	t.Helper()
	if r, ok := x.Find(k); r != want || ok != is {
		t.Errorf("Find(%v): %v, %v", k, r, ok)
	}
}

func is(t *testing.T, what string, err, want api.Errno) {
	t.Helper()
	if err != want {
		t.Errorf("%s: %v, not %v", what, err, want)
	}
}

func slot(t *testing.T, m *txn.Manager, page uint32, at int, want []byte) {
	t.Helper()
	p, err := m.Pool().Get(page)
	if err != api.OK {
		t.Fatal(err)
	}
	if b, _ := p.Get(at); !bytes.Equal(b, want) {
		t.Errorf("slot %d of page %d: %x, not %x", at, page, b, want)
	}
	m.Pool().Put(page, 0)
}

func image(k api.Key, r api.RID) []byte {
	return []byte{k.Kind, byte(k.Who), byte(k.Who >> 8), byte(k.Who >> 16), byte(k.Who >> 24), byte(k.What), byte(k.What >> 8), byte(k.What >> 16), byte(k.What >> 24),
		byte(r.Page), byte(r.Page >> 8), byte(r.Page >> 16), byte(r.Page >> 24), byte(r.Slot), byte(r.Slot >> 8)}
}

func TestBucket(t *testing.T) {
	table := crc32.MakeTable(crc32.Castagnoli)
	seen := map[uint32]bool{}
	for i := range uint32(1000) {
		k := api.Key{Kind: uint8(i), Who: i * 0x01020305, What: i << 20}
		want := 1 + crc32.Checksum(image(k, api.RID{})[:9], table)%8
		if got := hash.Bucket(k); got != want {
			t.Fatalf("Bucket(%v): %d, not %d", k, got, want)
		}
		seen[want] = true
	}
	if len(seen) != 8 {
		t.Errorf("%d buckets", len(seen))
	}
}

func TestExample(t *testing.T) {
	m, x := made(t, 14)
	n, _ := m.Begin()
	k := api.Key{Kind: 1, Who: 0x01020304, What: 0x05060708}
	find(t, x, k, api.RID{}, false)
	is(t, "Add", x.Add(n, k, rid(0x0a0b0c0d, 0x0e0f)), api.OK)
	find(t, x, k, rid(0x0a0b0c0d, 0x0e0f), true)
	slot(t, m, hash.Bucket(k), 1, image(k, rid(0x0a0b0c0d, 0x0e0f)))
	is(t, "Add again", x.Add(n, k, rid(1, 1)), api.ErrHashThere)
	is(t, "Drop", x.Drop(n, k), api.OK)
	find(t, x, k, api.RID{}, false)
	is(t, "Drop again", x.Drop(n, k), api.ErrHashNone)
	for _, other := range []api.Key{{Kind: 2, Who: k.Who, What: k.What}, {Kind: 1, Who: k.Who, What: 1}, {Kind: 1, Who: 1, What: k.What}} {
		x.Add(n, k, rid(1, 1))
		find(t, x, other, api.RID{}, false)
	}
}

func TestErrors(t *testing.T) {
	m, x := made(t, 14)
	n, _ := m.Begin()
	k := inBucket(3, 2)
	is(t, "Add without a transaction", x.Add(99, k[0], rid(1, 1)), api.ErrTxnNone)
	is(t, "Add", x.Add(n, k[0], rid(1, 1)), api.OK)
	is(t, "Add without a transaction of what is there", x.Add(99, k[0], rid(1, 1)), api.ErrHashThere)
	is(t, "Drop without a transaction", x.Drop(99, k[0]), api.ErrTxnNone)
	is(t, "Drop of what is not there", x.Drop(99, k[1]), api.ErrHashNone)
	m.Change(n, 5, 0, true, []byte{2, 99, 0, 0, 0})
	is(t, "Add to no chain", x.Add(n, inBucket(5, 1)[0], rid(1, 1)), api.ErrPoolNone)
	is(t, "Drop from no chain", x.Drop(n, inBucket(5, 1)[0]), api.ErrHashNone)
	if l, err := x.All(); len(l) != 0 || err != api.ErrPoolNone {
		t.Errorf("All of no chain: %v, %v", l, err)
	}
	m.Change(n, 5, 0, true, []byte{2, 0, 0, 0, 0})
	for page := range uint32(3) {
		m.Pool().Get(page + 9)
	}
	find(t, x, k[0], api.RID{}, false)
	is(t, "Add without a frame", x.Add(n, k[0], rid(1, 1)), api.ErrPoolFull)
	is(t, "Drop without a frame", x.Drop(n, k[0]), api.ErrHashNone)
	if l, err := x.All(); len(l) != 0 || err != api.ErrPoolFull {
		t.Errorf("All without a frame: %v, %v", l, err)
	}
}

// What has not 15 bytes is no entry, but something is there.
func TestWhatIsNoEntry(t *testing.T) {
	m, x := made(t, 14)
	n, _ := m.Begin()
	k := inBucket(2, 4)
	m.Change(n, 2, 1, true, image(k[0], rid(1, 1))[:14])
	m.Change(n, 2, 2, true, append(image(k[0], rid(1, 1)), 0))
	m.Change(n, 2, 23, true, image(k[0], rid(1, 1)))
	m.Change(n, 2, 4, true, image(k[1], rid(4, 4)))
	m.Change(n, 2, 5, true, image(k[1], rid(5, 5)))
	find(t, x, k[0], api.RID{}, false)
	find(t, x, k[1], rid(4, 4), true) // the first one
	is(t, "Add", x.Add(n, k[0], rid(6, 6)), api.OK)
	slot(t, m, 2, 3, image(k[0], rid(6, 6)))
	if l, err := x.All(); err != api.OK || !same(l, []api.Key{k[0], k[1], k[1]}) {
		t.Errorf("All: %v", l)
	}
	is(t, "Drop", x.Drop(n, k[1]), api.OK)
	find(t, x, k[1], rid(5, 5), true)
}

func TestHeldPlaces(t *testing.T) {
	m, x := made(t, 14)
	m.Begin() // 2
	k := inBucket(4, 30)
	for i := range 22 {
		is(t, "Add", x.Add(2, k[i], rid(uint32(i), 1)), api.OK)
	}
	m.Commit(2)
	x.Release(2)
	m.Begin() // 3
	m.Begin() // 4
	is(t, "Drop", x.Drop(3, k[5]), api.OK)
	is(t, "Drop", x.Drop(4, k[6]), api.OK)
	is(t, "Add", x.Add(4, k[22], rid(1, 2)), api.OK) // in the place of k[6]
	slot(t, m, 4, 7, image(k[22], rid(1, 2)))
	is(t, "Add", x.Add(4, k[23], rid(1, 2)), api.OK) // the chain grows
	slot(t, m, 10, 1, image(k[23], rid(1, 2)))
	x.Release(9)
	is(t, "Add", x.Add(4, k[24], rid(1, 2)), api.OK)
	slot(t, m, 10, 2, image(k[24], rid(1, 2)))
	is(t, "Abort", m.Abort(3), api.OK)
	x.Release(3)
	find(t, x, k[5], rid(5, 1), true)
	is(t, "Abort", m.Abort(4), api.OK)
	x.Release(4)
	find(t, x, k[6], rid(6, 1), true)
	find(t, x, k[23], api.RID{}, false)
	m.Begin() // 5
	is(t, "Drop", x.Drop(5, k[0]), api.OK)
	m.Commit(5)
	x.Release(5)
	m.Begin() // 6
	is(t, "Add", x.Add(6, k[25], rid(9, 9)), api.OK)
	slot(t, m, 4, 1, image(k[25], rid(9, 9)))
}

func TestGrowing(t *testing.T) {
	m, x := made(t, 12)
	n, _ := m.Begin()
	k := inBucket(1, 67)
	for i := range 66 {
		is(t, "Add", x.Add(n, k[i], rid(uint32(i), uint16(i))), api.OK)
	}
	is(t, "Add where there is no page", x.Add(n, k[66], rid(1, 1)), api.ErrAllocFull)
	for i := range 66 {
		find(t, x, k[i], rid(uint32(i), uint16(i)), true)
	}
	slot(t, m, 11, 22, image(k[65], rid(65, 65)))
	if l, err := alloc.Chain(m, 1); err != api.OK || !same(l, []uint32{1, 10, 11}) {
		t.Errorf("the chain: %v", l)
	}
	other := inBucket(8, 2)
	is(t, "Add", x.Add(n, other[1], rid(1, 1)), api.OK)
	is(t, "Add", x.Add(n, other[0], rid(1, 1)), api.OK)
	if l, err := x.All(); err != api.OK || !same(l, append(k[:66:66], other[1], other[0])) {
		t.Errorf("All: %v, %v", l, err)
	}
	for page := range uint32(12) {
		if m.Pool().Put(page, 0) {
			t.Errorf("page %d was not put back", page)
		}
	}
}

func TestAnyUse(t *testing.T) {
	m, x := made(t, 40)
	seed := uint32(1)
	next := func(n int) int {
		seed = seed*1664525 + 1013904223
		return int(seed>>8) % n
	}
	want := map[api.Key]api.RID{}
	n, _ := m.Begin()
	for i := range 1200 {
		k := api.Key{Kind: uint8(next(2)), Who: uint32(next(100))}
		if _, ok := want[k]; ok {
			is(t, "Drop", x.Drop(n, k), api.OK)
			delete(want, k)
		} else {
			want[k] = rid(uint32(i), uint16(i))
			is(t, "Add", x.Add(n, k, want[k]), api.OK)
		}
		if i%50 == 0 {
			m.Commit(n)
			x.Release(n)
			n, _ = m.Begin()
		}
	}
	l, err := x.All()
	if err != api.OK || len(l) != len(want) {
		t.Fatalf("All: %d of %d, %v", len(l), len(want), err)
	}
	for _, k := range l {
		find(t, x, k, want[k], true)
	}
}

// Reading, and what fails, makes no page other than on the disk.
func TestReadingChangesNothing(t *testing.T) {
	m, x := made(t, 12)
	n, _ := m.Begin()
	k := inBucket(3, 2)
	x.Add(n, k[0], rid(9, 1))
	m.Commit(n)
	m.Pool().WriteAll()
	find(t, x, k[0], rid(9, 1), true)
	x.All()
	x.Add(n, k[0], rid(9, 2))
	x.Add(n, k[1], rid(9, 2))
	x.Drop(n, k[0])
	x.Drop(n, k[1])
	if l := m.Pool().Dirty(); len(l) != 0 {
		t.Errorf("Dirty: %v", l)
	}
}
