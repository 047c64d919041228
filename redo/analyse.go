package redo

import (
	"maps"
	"slices"

	"manciple/api"
)

// tables are what a log says up to some record.
type tables struct {
	txns  map[uint32]api.Active
	pages map[uint32]uint64 // from which place on they may be other than on the disk
	won   []uint32
}

// read goes through a log's entries.
func read(l []api.Entry) *tables {
	t := &tables{txns: map[uint32]api.Active{}, pages: map[uint32]uint64{}}
	for _, e := range l {
		t.add(e.LSN, e.Rec)
	}
	return t
}

// add is one record more.
func (t *tables) add(place uint64, r api.Rec) {
	switch r.Kind {
	case api.RecTables:
		t.check(r)
	case api.RecBegin:
		t.txns[r.Txn] = api.Active{Txn: r.Txn, Last: place, Undo: place, State: api.TxnRuns}
	case api.RecChange:
		t.went(r.Txn, place, place)
		t.changed(place, r.Change)
	case api.RecUndo:
		t.went(r.Txn, place, r.Next)
		t.changed(place, r.Change)
	case api.RecCommit:
		t.won = append(t.won, r.Txn)
		t.turned(r.Txn, place, api.TxnCommits)
	case api.RecAbort:
		t.turned(r.Txn, place, api.TxnAborts)
	case api.RecEnd:
		delete(t.txns, r.Txn)
	}
}

// check adds the tables of a checkpoint: what was found behind it is newer.
func (t *tables) check(r api.Rec) {
	for _, a := range r.Txns {
		if _, ok := t.txns[a.Txn]; !ok {
			t.txns[a.Txn] = a
		}
	}
	for _, d := range r.Pages {
		if first, ok := t.pages[d.Page]; !ok || d.First < first {
			t.pages[d.Page] = d.First
		}
	}
}

// went says that a transaction has a record more, and what is undone next.
func (t *tables) went(txn uint32, last, undo uint64) {
	if a, ok := t.txns[txn]; ok {
		a.Last, a.Undo = last, undo
		t.txns[txn] = a
	}
}

// turned says that a transaction has a record more, by which its state is another one.
func (t *tables) turned(txn uint32, last uint64, state uint8) {
	if a, ok := t.txns[txn]; ok {
		a.Last, a.State = last, state
		t.txns[txn] = a
	}
}

// changed says that a page was changed by the record at a place.
func (t *tables) changed(place uint64, c api.Change) {
	if _, ok := t.pages[c.Page]; !ok && does(c) {
		t.pages[c.Page] = place
	}
}

// does says whether a change changes anything.
func does(c api.Change) bool { return c.Had || c.Has }

// active are the transactions, by rising numbers.
func (t *tables) active() []api.Active {
	var l []api.Active
	for _, n := range slices.Sorted(maps.Keys(t.txns)) {
		l = append(l, t.txns[n])
	}
	return l
}

// dirty are the pages, by rising numbers.
func (t *tables) dirty() []api.Dirty {
	var l []api.Dirty
	for _, n := range slices.Sorted(maps.Keys(t.pages)) {
		l = append(l, api.Dirty{Page: n, First: t.pages[n]})
	}
	return l
}

// Analyse is what a log says: who has not ended, which pages may be other than on the disk, what is found.
func Analyse(l []api.Entry) ([]api.Active, []api.Dirty, api.Report) {
	t := read(l)
	return t.active(), t.dirty(), api.Report{Won: t.won}
}
