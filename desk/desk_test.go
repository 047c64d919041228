package desk_test

import (
	"fmt"
	"testing"

	"manciple/api"
	"manciple/desk"
	"manciple/disk"
	"manciple/model"
	"manciple/pool"
	"manciple/rule"
	"manciple/store"
	"manciple/txn"
	"manciple/wal"
)

// same says whether two values are the same; lists that are nil and lists that are empty are.
func same(a, b any) bool { return fmt.Sprint(a) == fmt.Sprint(b) }

func made(t *testing.T, strips, pages, sessions int) *desk.Desk {
	t.Helper()
	l, err := wal.New(disk.New(2+2*strips, 4*(pages+1)))
	if err != api.OK {
		t.Fatal(err)
	}
	p, err := pool.New(l, pages, 8)
	if err != api.OK {
		t.Fatal(err)
	}
	s, err := store.New(txn.New(l, p))
	if err != api.OK {
		t.Fatal(err)
	}
	d := desk.New(s)
	if d.Store() != s {
		t.Error("Store")
	}
	for i := range sessions {
		if id, err := d.Open(); id != i || err != api.OK {
			t.Fatalf("Open: %d, %v", id, err)
		}
	}
	return d
}

func ask(t *testing.T, d *desk.Desk, id int, r api.Request) {
	t.Helper()
	if err := d.Ask(id, r); err != api.OK {
		t.Fatalf("Ask(%d, %v): %v", id, r, err)
	}
}

// told checks all answers since the last call: session, reply, session, reply ..
func told(t *testing.T, d *desk.Desk, want ...any) {
	t.Helper()
	var l []api.Answer
	for i := 0; i < len(want); i += 2 {
		l = append(l, api.Answer{Session: want[i].(int), Reply: want[i+1].(api.Reply)})
	}
	if got := d.Answers(); !same(got, l) {
		t.Errorf("Answers: %v, not %v", got, l)
	}
}

// does asks, steps, and checks the one answer.
func does(t *testing.T, d *desk.Desk, id int, r api.Request, want api.Reply) {
	t.Helper()
	ask(t, d, id, r)
	if !d.Step(id) {
		t.Errorf("Step(%d) of %v", id, r)
	}
	told(t, d, id, want)
}

// waits asks, steps, and checks that there is no answer.
func waits(t *testing.T, d *desk.Desk, id int, r api.Request) {
	t.Helper()
	ask(t, d, id, r)
	if !d.Step(id) || d.Step(id) {
		t.Errorf("Step(%d) of %v", id, r)
	}
	told(t, d)
	state(t, d, id, api.DeskWaits)
	if err := d.Ask(id, r); err != api.ErrDeskBusy {
		t.Errorf("Ask of who waits: %v", err)
	}
}

func state(t *testing.T, d *desk.Desk, id int, want uint8) {
	t.Helper()
	if got := d.State(id); got != want {
		t.Errorf("State(%d): %d, not %d", id, got, want)
	}
}

func fail(e api.Errno) api.Reply { return api.Reply{Err: e} }

func a(n uint64) api.Reply { return api.Reply{A: n} }

func req(kind uint8) api.Request { return api.Request{Kind: kind} }

func op(kind uint8, who uint32, n uint64) api.Request {
	return api.Request{Kind: api.ReqDo, Op: api.Op{Kind: kind, Who: who, N: n}}
}

// accounts opens some, with coins, in one transaction of session 0.
func accounts(t *testing.T, d *desk.Desk, n uint32) {
	t.Helper()
	ask(t, d, 0, req(api.ReqBegin))
	d.Step(0)
	for who := uint32(1); who <= n; who++ {
		for _, r := range []api.Request{op(api.OpOpen, who, 0), op(api.OpMint, who, 100)} {
			ask(t, d, 0, r)
			d.Step(0)
		}
	}
	ask(t, d, 0, req(api.ReqCommit))
	d.Step(0)
	for _, x := range d.Answers() {
		if x.Reply.Err != api.OK {
			t.Fatal(x)
		}
	}
}

func TestSessions(t *testing.T) {
	d := made(t, 64, 20, 32)
	if id, err := d.Open(); id != 0 || err != api.ErrLimit {
		t.Errorf("the 33rd Open: %d, %v", id, err)
	}
	for _, id := range []int{-1, 32, 1 << 40} {
		if err := d.Ask(id, req(api.ReqBegin)); err != api.ErrDeskNone {
			t.Errorf("Ask(%d): %v", id, err)
		}
		if d.Step(id) || d.State(id) != 0 || d.Txn(id) != 0 {
			t.Errorf("session %d", id)
		}
	}
	state(t, d, 31, api.DeskIdle)
	if d.Step(31) || len(d.Ready()) != 0 || len(d.Answers()) != 0 || len(d.Dones()) != 0 {
		t.Error("a session that asks for nothing")
	}
	ask(t, d, 31, req(api.ReqBegin))
	ask(t, d, 4, req(api.ReqBegin))
	state(t, d, 31, api.DeskReady)
	if !same(d.Ready(), []int{4, 31}) {
		t.Errorf("Ready: %v", d.Ready())
	}
	if err := d.Ask(31, req(api.ReqAbort)); err != api.ErrDeskBusy {
		t.Errorf("Ask of who is ready: %v", err)
	}
}

func TestExample(t *testing.T) {
	d := made(t, 64, 20, 1)
	ask(t, d, 0, req(api.ReqBegin))
	if !d.Step(0) {
		t.Error("Step")
	}
	told(t, d, 0, a(2))
	told(t, d)
	state(t, d, 0, api.DeskOpen)
	if d.Txn(0) != 2 || d.Step(0) {
		t.Error("behind a ReqBegin")
	}
	does(t, d, 0, req(api.ReqCommit), a(2))
	state(t, d, 0, api.DeskIdle)
	if d.Txn(0) != 0 || !same(d.Dones(), []api.Done{{Txn: 2}}) {
		t.Errorf("Dones: %v", d.Dones())
	}
}

func TestStates(t *testing.T) {
	d := made(t, 64, 20, 1)
	for kind := range 256 {
		if kind != int(api.ReqBegin) {
			does(t, d, 0, req(uint8(kind)), fail(api.ErrDeskState))
			state(t, d, 0, api.DeskIdle)
		}
	}
	does(t, d, 0, req(api.ReqBegin), a(2))
	for _, kind := range []uint8{0, api.ReqBegin, 7, 255} {
		does(t, d, 0, req(kind), fail(api.ErrDeskState))
		state(t, d, 0, api.DeskOpen)
	}
	if d.Txn(0) != 2 {
		t.Error("Txn")
	}
	does(t, d, 0, req(api.ReqAbort), a(2))
	state(t, d, 0, api.DeskIdle)
	if len(d.Dones()) != 0 {
		t.Error("what was given up is not done")
	}
}

func TestBeginThatFails(t *testing.T) {
	d := made(t, 64, 20, 1)
	for range 64 {
		d.Store().Begin()
	}
	does(t, d, 0, req(api.ReqBegin), fail(api.ErrLimit))
	state(t, d, 0, api.DeskIdle)
}

func TestDo(t *testing.T) {
	d := made(t, 64, 20, 1)
	does(t, d, 0, req(api.ReqBegin), a(2))
	does(t, d, 0, op(api.OpOpen, 5, 0), a(5))
	does(t, d, 0, op(api.OpMint, 5, 9), a(9))
	does(t, d, 0, op(api.OpSink, 5, 10), fail(api.ErrRuleLow))
	does(t, d, 0, op(api.OpDeposit, 5, 4), api.Reply{A: 5, B: 4})
	does(t, d, 0, op(api.OpLook, 5, 0), api.Reply{A: 5, B: 4})
	does(t, d, 0, op(99, 5, 0), fail(api.ErrArg))
	does(t, d, 0, req(api.ReqCommit), a(2))
	want := api.Done{Txn: 2,
		Ops:     []api.Op{{Kind: 1, Who: 5}, {Kind: 2, Who: 5, N: 9}, {Kind: 3, Who: 5, N: 10}, {Kind: 6, Who: 5, N: 4}, {Kind: 18, Who: 5}, {Kind: 99, Who: 5}},
		Replies: []api.Reply{a(5), a(9), fail(api.ErrRuleLow), {A: 5, B: 4}, {A: 5, B: 4}, fail(api.ErrArg)}}
	if !same(d.Dones(), []api.Done{want}) {
		t.Errorf("Dones: %v", d.Dones())
	}
	d.Dones()[0].Ops[0].Kind = 77
	d.Dones()[0].Replies[0].A = 77
	if !same(d.Dones(), []api.Done{want}) {
		t.Error("Dones shares memory")
	}
	all, err := d.Store().All()
	if err != api.OK || !same(all, []api.Cell{{Key: rule.Purse(5), Value: api.Value{A: 5}, Is: true}, {Key: rule.Bank(5), Value: api.Value{A: 4}, Is: true}}) {
		t.Errorf("All: %v", all)
	}
}

// The store's error is answered in the place of the reply, and the operation is done without it.
func TestDoThatFails(t *testing.T) {
	d := made(t, 12, 20, 2) // 1524 bytes of log
	does(t, d, 0, req(api.ReqBegin), a(2))
	done := 0
	for who := uint32(1); ; who++ {
		ask(t, d, 0, op(api.OpOpen, who, 0))
		d.Step(0)
		x := d.Answers()
		if x[0].Reply.Err != api.OK {
			told(t, d)
			if !same(x, []api.Answer{{Session: 0, Reply: fail(api.ErrWalFull)}}) {
				t.Errorf("Answers: %v", x)
			}
			break
		}
		done++
	}
	state(t, d, 0, api.DeskOpen)
	does(t, d, 1, req(api.ReqBegin), fail(api.ErrWalFull))
	does(t, d, 0, op(api.OpLook, 1, 0), api.Reply{})
	does(t, d, 0, req(api.ReqCommit), a(2))
	if x := d.Dones(); len(x) != 1 || len(x[0].Ops) != done+2 || x[0].Replies[done] != fail(api.ErrWalFull) {
		t.Errorf("Dones: %v", x)
	}
	if all, _ := d.Store().All(); len(all) != done {
		t.Errorf("%d things, not %d", len(all), done)
	}
}

func TestMarks(t *testing.T) {
	d := made(t, 200, 20, 1)
	accounts(t, d, 1)
	does(t, d, 0, req(api.ReqBegin), a(3))
	back := func(n uint32, want api.Reply) {
		t.Helper()
		does(t, d, 0, api.Request{Kind: api.ReqBack, N: n}, want)
		state(t, d, 0, api.DeskOpen)
	}
	back(0, fail(api.ErrTxnMark))
	does(t, d, 0, op(api.OpMint, 1, 1), a(101))
	does(t, d, 0, req(api.ReqMark), a(0))
	does(t, d, 0, op(api.OpMint, 1, 1), a(102))
	does(t, d, 0, req(api.ReqMark), a(1))
	does(t, d, 0, op(api.OpMint, 1, 1), a(103))
	does(t, d, 0, req(api.ReqMark), a(2))
	does(t, d, 0, op(api.OpMint, 1, 1), a(104))
	back(3, fail(api.ErrTxnMark))
	back(1<<32-1, fail(api.ErrTxnMark))
	back(1, a(1))
	back(2, fail(api.ErrTxnMark))
	does(t, d, 0, op(api.OpLook, 1, 0), a(102))
	does(t, d, 0, op(api.OpMint, 1, 8), a(110))
	back(1, a(1))
	does(t, d, 0, op(api.OpMint, 1, 3), a(105))
	for n := uint64(2); n < 16; n++ {
		does(t, d, 0, req(api.ReqMark), a(n))
	}
	does(t, d, 0, req(api.ReqMark), fail(api.ErrTxnMark))
	back(15, a(15))
	does(t, d, 0, req(api.ReqMark), fail(api.ErrTxnMark))
	back(0, a(0))
	does(t, d, 0, req(api.ReqMark), a(1))
	does(t, d, 0, op(api.OpSink, 1, 50), a(51))
	does(t, d, 0, req(api.ReqCommit), a(3))
	want := api.Done{Txn: 3, Ops: []api.Op{{Kind: 2, Who: 1, N: 1}, {Kind: 3, Who: 1, N: 50}}, Replies: []api.Reply{a(101), a(51)}}
	if !same(d.Dones()[1], want) {
		t.Errorf("Dones: %v", d.Dones()[1])
	}
	does(t, d, 0, req(api.ReqBegin), a(4))
	back(0, fail(api.ErrTxnMark)) // marks go with their transaction
}

func TestWaiting(t *testing.T) {
	d := made(t, 64, 20, 4)
	accounts(t, d, 2)
	for id := range 4 {
		does(t, d, id, req(api.ReqBegin), a(uint64(3+id)))
	}
	does(t, d, 0, op(api.OpLook, 1, 0), a(100))
	does(t, d, 1, op(api.OpLook, 1, 0), a(100)) // both share
	waits(t, d, 0, op(api.OpMint, 1, 1))
	waits(t, d, 2, op(api.OpLook, 1, 0)) // behind who waits for its own
	does(t, d, 3, op(api.OpMint, 2, 1), a(101))
	waits(t, d, 3, op(api.OpLook, 1, 0))
	does(t, d, 1, req(api.ReqCommit), a(4))
	state(t, d, 0, api.DeskReady)
	state(t, d, 2, api.DeskWaits)
	if !same(d.Ready(), []int{0}) {
		t.Errorf("Ready: %v", d.Ready())
	}
	if !d.Step(0) {
		t.Error("Step of who got its lock")
	}
	told(t, d, 0, a(101))
	does(t, d, 0, req(api.ReqAbort), a(3))
	if !same(d.Ready(), []int{2, 3}) {
		t.Errorf("Ready: %v", d.Ready())
	}
	d.Step(3)
	d.Step(2)
	told(t, d, 3, a(100), 2, a(100))
}

// Who waits does all of its request anew, with what is there then.
func TestAnew(t *testing.T) {
	d := made(t, 64, 20, 2)
	accounts(t, d, 2)
	does(t, d, 0, req(api.ReqBegin), a(3))
	does(t, d, 1, req(api.ReqBegin), a(4))
	does(t, d, 0, op(api.OpSink, 1, 100), a(0))
	waits(t, d, 1, op(api.OpSink, 1, 1))
	does(t, d, 0, req(api.ReqCommit), a(3))
	d.Step(1)
	told(t, d, 1, fail(api.ErrRuleLow))
	does(t, d, 1, req(api.ReqCommit), a(4))
	// what was undone is not seen
	does(t, d, 0, req(api.ReqBegin), a(5))
	does(t, d, 1, req(api.ReqBegin), a(6))
	does(t, d, 0, op(api.OpOpen, 9, 0), a(9))
	waits(t, d, 1, op(api.OpOpen, 9, 0))
	does(t, d, 0, req(api.ReqAbort), a(5))
	d.Step(1)
	told(t, d, 1, a(9))
}

// Locks are kept to the end, also of what is gone back from.
func TestLocksAreKept(t *testing.T) {
	d := made(t, 64, 20, 2)
	accounts(t, d, 1)
	does(t, d, 0, req(api.ReqBegin), a(3))
	does(t, d, 1, req(api.ReqBegin), a(4))
	does(t, d, 0, req(api.ReqMark), a(0))
	does(t, d, 0, op(api.OpMint, 1, 1), a(101))
	does(t, d, 0, req(api.ReqBack), a(0))
	waits(t, d, 1, op(api.OpLook, 1, 0))
	does(t, d, 0, req(api.ReqCommit), a(3))
	d.Step(1)
	told(t, d, 1, a(100))
}

func TestRings(t *testing.T) {
	d := made(t, 64, 20, 3)
	accounts(t, d, 3)
	for id := range 3 {
		does(t, d, id, req(api.ReqBegin), a(uint64(3+id)))
	}
	// two share a lock, and both want it for their own: who closes the ring is the greatest
	does(t, d, 0, op(api.OpLook, 1, 0), a(100))
	does(t, d, 1, op(api.OpLook, 1, 0), a(100))
	does(t, d, 1, op(api.OpMint, 3, 5), a(105))
	waits(t, d, 0, op(api.OpMint, 1, 1))
	does(t, d, 1, op(api.OpMint, 1, 1), fail(api.ErrDeskVictim))
	state(t, d, 1, api.DeskIdle)
	if d.Txn(1) != 0 {
		t.Error("a victim's transaction is over")
	}
	state(t, d, 0, api.DeskReady)
	d.Step(0)
	told(t, d, 0, a(101))
	does(t, d, 0, op(api.OpLook, 3, 0), a(100)) // what the victim did is undone
	// another one than who closes the ring
	does(t, d, 2, op(api.OpMint, 2, 1), a(101))
	waits(t, d, 2, op(api.OpLook, 1, 0))
	ask(t, d, 0, op(api.OpLook, 2, 0))
	d.Step(0)
	told(t, d, 2, fail(api.ErrDeskVictim))
	state(t, d, 2, api.DeskIdle)
	state(t, d, 0, api.DeskReady)
	d.Step(0)
	told(t, d, 0, a(100))
	does(t, d, 0, req(api.ReqCommit), a(3))
	if len(d.Dones()) != 2 || len(d.Store().Manager().Active()) != 0 {
		t.Error("Dones")
	}
	// a victim's session may begin again
	does(t, d, 2, req(api.ReqBegin), a(6))
	does(t, d, 2, op(api.OpLook, 2, 0), a(100))
}

// A request may close several rings, each of which is broken.
func TestSeveralRings(t *testing.T) {
	d := made(t, 64, 20, 4)
	accounts(t, d, 4)
	for id := range 4 {
		does(t, d, id, req(api.ReqBegin), a(uint64(3+id)))
	}
	does(t, d, 0, op(api.OpMint, 1, 1), a(101))
	for id := 1; id < 4; id++ {
		does(t, d, id, op(api.OpLook, 2, 0), a(100))
		waits(t, d, id, op(api.OpLook, 1, 0))
	}
	ask(t, d, 0, op(api.OpMint, 2, 1))
	d.Step(0)
	// the first ring is 3, 4; the next one, from 3 on, 3, 5; then 3, 6
	told(t, d, 1, fail(api.ErrDeskVictim), 2, fail(api.ErrDeskVictim), 3, fail(api.ErrDeskVictim))
	state(t, d, 0, api.DeskReady)
	d.Step(0)
	told(t, d, 0, a(101))
}

type random uint64

func (r *random) next(n int) int {
	*r = *r*6364136223846793005 + 1442695040888963407
	return int(*r>>33) % n
}

func anyOp(r *random) api.Op {
	return api.Op{Kind: uint8(r.next(18) + 1), Who: uint32(r.next(4)), Whom: uint32(r.next(4)), What: uint32(r.next(8)), ID: uint32(r.next(6)), N: uint64(r.next(20)), Price: uint64(r.next(20))}
}

// Whatever sessions ask for, and in whatever order they are stepped: committed transactions were answered as if each had been alone.
func TestOneAtATime(t *testing.T) {
	victims := 0
	for seed := range 25 {
		r := random(seed)
		d := made(t, 2000, 60, 6)
		for range 900 {
			id := r.next(6)
			switch d.State(id) {
			case api.DeskIdle:
				ask(t, d, id, req(api.ReqBegin))
			case api.DeskOpen:
				switch n := r.next(16); {
				case n < 11:
					ask(t, d, id, api.Request{Kind: api.ReqDo, Op: anyOp(&r)})
				case n < 12:
					ask(t, d, id, req(api.ReqMark))
				case n < 13:
					ask(t, d, id, api.Request{Kind: api.ReqBack, N: uint32(r.next(3))})
				case n < 15:
					ask(t, d, id, req(api.ReqCommit))
				default:
					ask(t, d, id, req(api.ReqAbort))
				}
			}
			if ready := d.Ready(); len(ready) > 0 {
				d.Step(ready[r.next(len(ready))])
			}
			for _, x := range d.Answers() {
				if x.Reply.Err == api.ErrDeskVictim {
					victims++
				}
				if x.Reply.Err == api.ErrWalFull || x.Reply.Err == api.ErrPoolFull {
					t.Fatalf("the world is too small: %v", x.Reply)
				}
			}
		}
		for id := range 6 {
			for d.State(id) == api.DeskReady || d.State(id) == api.DeskWaits {
				for _, n := range d.Ready() {
					d.Step(n)
				}
				for n := range 6 {
					if n != id && d.State(n) == api.DeskOpen {
						ask(t, d, n, req(api.ReqAbort))
					}
				}
			}
			if d.State(id) == api.DeskOpen {
				ask(t, d, id, req(api.ReqAbort))
				d.Step(id)
			}
		}
		w := model.New()
		for _, x := range d.Dones() {
			for i, op := range x.Ops {
				if got := w.Do(op); got != x.Replies[i] {
					t.Fatalf("seed %d: transaction %d was answered %v, not %v", seed, x.Txn, x.Replies[i], got)
				}
			}
		}
		if all, err := d.Store().All(); err != api.OK || !same(all, w.All()) {
			t.Fatalf("seed %d: the world is another one", seed)
		}
		if len(d.Dones()) < 20 {
			t.Errorf("seed %d: %d transactions", seed, len(d.Dones()))
		}
	}
	if victims == 0 {
		t.Error("there were no victims")
	}
}

// If sessions are stepped in turn, and end their transactions, each request is answered.
func TestNobodyWaitsForEver(t *testing.T) {
	r := random(99)
	for range 60 {
		d := made(t, 400, 40, 8)
		accounts(t, d, 3)
		left := make([]int, 8)
		for id := range left {
			left[id] = 3 + r.next(6)
		}
		for round := 0; ; round++ {
			if round > 400 {
				t.Fatal("somebody waits for ever")
			}
			busy := false
			for id := range left {
				switch d.State(id) {
				case api.DeskIdle:
					if left[id] > 0 {
						left[id]--
						ask(t, d, id, req(api.ReqBegin))
						busy = true
					}
				case api.DeskOpen:
					busy = true
					if left[id] > 0 {
						left[id]--
						ask(t, d, id, api.Request{Kind: api.ReqDo, Op: anyOp(&r)})
					} else {
						ask(t, d, id, req(api.ReqCommit))
					}
				default:
					busy = true
				}
				d.Step(id)
			}
			if !busy {
				break
			}
		}
	}
}

// Errors of the store are answered, and the session keeps its transaction.
func TestStoreErrors(t *testing.T) {
	d := made(t, 64, 20, 2)
	does(t, d, 0, req(api.ReqBegin), a(2))
	does(t, d, 0, op(api.OpOpen, 1, 0), a(1))
	does(t, d, 0, req(api.ReqMark), a(0))
	does(t, d, 0, op(api.OpOpen, 2, 0), a(2))
	log := d.Store().Manager().Log()
	for log.Room() >= 27 {
		log.Append(api.Rec{Kind: api.RecCheck}, 0)
	}
	for _, r := range []api.Request{req(api.ReqBack), req(api.ReqCommit), req(api.ReqAbort)} {
		does(t, d, 0, r, fail(api.ErrWalFull))
		state(t, d, 0, api.DeskOpen)
		if d.Txn(0) != 2 || len(d.Dones()) != 0 {
			t.Errorf("%v ended the transaction", r)
		}
	}
	d = made(t, 64, 20, 2)
	does(t, d, 0, req(api.ReqBegin), a(2))
	does(t, d, 0, op(api.OpOpen, 1, 0), a(1))
	d.Store().Abort(2) // behind the desk's back
	does(t, d, 0, req(api.ReqMark), fail(api.ErrTxnNone))
	does(t, d, 0, op(api.OpLook, 9, 0), fail(api.ErrRuleNone))
	does(t, d, 0, op(api.OpOpen, 9, 0), fail(api.ErrTxnNone))
	does(t, d, 0, req(api.ReqCommit), fail(api.ErrTxnNone))
	state(t, d, 0, api.DeskOpen)
}
