package desk

import (
	"slices"

	"manciple/api"
)

// mark is a place to go back to, and how much was done then.
type mark struct {
	place uint64
	done  int
}

// work is a transaction, and what was done in it.
type work struct {
	api.Done
	marks []mark
}

// note says that an operation was done, and what was answered.
func (w *work) note(op api.Op, r api.Reply) {
	w.Ops = append(w.Ops, op)
	w.Replies = append(w.Replies, r)
}

// back forgets what was done since a mark, and the marks behind it.
func (w *work) back(n int) {
	done := w.marks[n].done
	w.Ops = w.Ops[:done]
	w.Replies = w.Replies[:done]
	w.marks = w.marks[:n+1]
}

// copied is what a transaction did, as lists that nobody else has.
func copied(d api.Done) api.Done {
	return api.Done{Txn: d.Txn, Ops: slices.Clone(d.Ops), Replies: slices.Clone(d.Replies)}
}

// session is one of the desk's.
type session struct {
	id    int
	state uint8
	work  *work // nil: no transaction
	asked api.Request
}

// has says whether it has this transaction.
func (s *session) has(txn uint32) bool {
	return s.work != nil && s.work.Txn == txn
}

// find is the first one of a list that is meant; false: there is none.
func find[T any](l []T, meant func(T) bool) (T, bool) {
	for _, x := range l {
		if meant(x) {
			return x, true
		}
	}
	var none T
	return none, false
}
