package txn

import (
	"slices"

	"manciple/api"
	"manciple/rec"
	"manciple/wal"
)

// endBytes are kept in the log for each transaction: for a RecCommit or RecAbort, and a RecEnd.
const endBytes = 54

// change is one that is not undone: its place, and how many bytes its undoing takes in the log.
type change struct {
	place uint64
	bytes uint64
}

// changes are those of a transaction that are not undone.
type changes []change

// has says whether one of them has this place.
func (l changes) has(place uint64) bool {
	return slices.ContainsFunc(l, func(c change) bool { return c.place == place })
}

// add lays one behind the others.
func (l *changes) add(place uint64, c api.Change) {
	*l = append(*l, change{place, undoing(c)})
}

// forget takes away the one at a place.
func (l *changes) forget(place uint64) {
	*l = slices.DeleteFunc(*l, func(c change) bool { return c.place == place })
}

// cut takes away all behind a place.
func (l *changes) cut(place uint64) {
	*l = slices.DeleteFunc(*l, func(c change) bool { return c.place > place })
}

// need is how many bytes of the log are kept for undoing them, and for the end.
func (l changes) need() uint64 {
	n := uint64(endBytes)
	for _, c := range l {
		n += c.bytes
	}
	return n
}

// undoing is how many bytes of the log it takes to undo a change.
func undoing(c api.Change) uint64 {
	b, _ := rec.Encode(api.Rec{Kind: api.RecUndo, Change: rec.Turned(c)})
	return uint64(len(b))
}

// ahead is where a record at a place leads to; 0, if that is not ahead of it: so each way ends.
func ahead(to, place uint64) uint64 {
	if to >= place {
		return 0
	}
	return to
}

// onTheWay are the changes that are undone from some place on.
func onTheWay(log *wal.Log, at uint64) changes {
	var l changes
	for {
		r, _, err := log.Read(at)
		switch {
		case err == api.OK && r.Kind == api.RecChange:
			l.add(at, r.Change)
			at = ahead(r.Prev, at)
		case err == api.OK && r.Kind == api.RecUndo:
			at = ahead(r.Next, at)
		default:
			return l
		}
	}
}

// begins are the places of the transactions' last RecBegins in a log.
func begins(log *wal.Log) map[uint32]uint64 {
	places := map[uint32]uint64{}
	for _, e := range log.Entries(0) {
		if e.Rec.Kind == api.RecBegin {
			places[e.Rec.Txn] = e.LSN
		}
	}
	return places
}
