package srv_test

import (
	"fmt"
	"testing"

	"manciple/api"
	"manciple/codec"
	"manciple/model"
	"manciple/redo"
	"manciple/rule"
	"manciple/srv"
)

// same says whether two values are the same; lists that are nil and lists that are empty are.
func same(a, b any) bool { return fmt.Sprint(a) == fmt.Sprint(b) }

func made(t *testing.T, strips, pages, frames, sessions int) *srv.Server {
	t.Helper()
	s, err := srv.New(api.Shape{Strips: strips, Pages: pages, Frames: frames})
	if err != api.OK {
		t.Fatalf("New: %v", err)
	}
	open(t, s, sessions)
	return s
}

func open(t *testing.T, s *srv.Server, sessions int) {
	t.Helper()
	for i := range sessions {
		if id, err := s.Open(); id != i || err != api.OK {
			t.Fatalf("Open: %d, %v", id, err)
		}
	}
}

func told(t *testing.T, s *srv.Server, id int, want ...api.Reply) {
	t.Helper()
	var l [][]byte
	for _, r := range want {
		l = append(l, codec.Tell(r))
	}
	if got := s.Take(id); !same(got, l) {
		t.Errorf("Take(%d): %v, not %v", id, got, l)
	}
}

func send(s *srv.Server, id int, r api.Request) { s.Send(id, codec.Ask(r)) }

// does sends a request, steps, and checks what is told.
func does(t *testing.T, s *srv.Server, id int, r api.Request, want api.Reply) {
	t.Helper()
	send(s, id, r)
	if !s.Step(id) {
		t.Errorf("Step(%d) of %v", id, r)
	}
	told(t, s, id, want)
}

func a(n uint64) api.Reply { return api.Reply{A: n} }

func fail(e api.Errno) api.Reply { return api.Reply{Err: e} }

func req(kind uint8) api.Request { return api.Request{Kind: kind} }

func op(kind uint8, who uint32, n uint64) api.Request {
	return api.Request{Kind: api.ReqDo, Op: api.Op{Kind: kind, Who: who, N: n}}
}

func world(t *testing.T, s *srv.Server, want ...api.Cell) {
	t.Helper()
	if got, err := s.World(); err != api.OK || !same(got, want) {
		t.Errorf("World: %v, %v, not %v", got, err, want)
	}
}

func purse(who uint32, n uint64) api.Cell {
	return api.Cell{Key: rule.Purse(who), Value: api.Value{A: n}, Is: true}
}

func TestNew(t *testing.T) {
	for _, c := range []api.Shape{
		{}, {Strips: 7, Pages: 32, Frames: 8}, {Strips: 2001, Pages: 32, Frames: 8}, {Strips: -1, Pages: 32, Frames: 8},
		{Strips: 64, Pages: 9, Frames: 8}, {Strips: 64, Pages: 513, Frames: 8}, {Strips: 64, Pages: -5, Frames: 8},
		{Strips: 64, Pages: 32, Frames: 2}, {Strips: 64, Pages: 32, Frames: 65}, {Strips: 1 << 62, Pages: 1 << 62, Frames: 1 << 62},
	} {
		if s, err := srv.New(c); s != nil || err != api.ErrArg {
			t.Errorf("New(%v): %v", c, err)
		}
	}
	for _, c := range []api.Shape{{Strips: 8, Pages: 10, Frames: 3}, {Strips: 2000, Pages: 512, Frames: 64}} {
		s, err := srv.New(c)
		if err != api.OK {
			t.Fatalf("New(%v): %v", c, err)
		}
		if s.Dev().Size(0) != 2+2*c.Strips || s.Dev().Size(1) != 4*(c.Pages+1) || s.Desk().State(0) != 0 {
			t.Errorf("New(%v)", c)
		}
		world(t, s)
		m := s.Desk().Store().Manager()
		if m.Pool().Pages() != c.Pages || len(m.Pool().At()) != c.Frames || m.Log().Dev() != s.Dev() || m.Next() != 2 {
			t.Errorf("New(%v)", c)
		}
	}
}

func TestExample(t *testing.T) {
	s := made(t, 64, 32, 8, 1)
	send(s, 0, req(api.ReqBegin))
	told(t, s, 0)
	if !s.Step(0) || s.Step(0) {
		t.Error("Step")
	}
	told(t, s, 0, a(2))
	told(t, s, 0)
}

func TestSendAndTake(t *testing.T) {
	s := made(t, 64, 32, 8, 32)
	if id, err := s.Open(); id != 0 || err != api.ErrLimit {
		t.Errorf("Open: %d, %v", id, err)
	}
	for _, id := range []int{-1, 32, 1 << 40} {
		s.Send(id, nil)
		send(s, id, req(api.ReqBegin))
		told(t, s, id)
		if s.Step(id) {
			t.Errorf("Step(%d)", id)
		}
	}
	s.Send(0, []byte{0})
	told(t, s, 0, fail(api.ErrCodecForm))
	send(s, 0, req(api.ReqCommit))
	s.Step(0)
	s.Send(0, nil)
	send(s, 0, req(api.ReqBegin))
	send(s, 0, req(api.ReqBegin))
	s.Send(0, codec.Ask(api.Request{Kind: 9}))
	s.Step(0)
	send(s, 1, req(api.ReqBegin))
	s.Step(1)
	told(t, s, 0, fail(api.ErrDeskState), fail(api.ErrCodecForm), fail(api.ErrDeskBusy), fail(api.ErrCodecForm), a(2))
	told(t, s, 0)
	told(t, s, 1, a(3))
	// a victim is told, though it was not stepped
	does(t, s, 0, op(api.OpOpen, 1, 0), a(1))
	does(t, s, 1, op(api.OpOpen, 2, 0), a(2))
	send(s, 1, op(api.OpOpen, 1, 0))
	s.Step(1)
	send(s, 0, op(api.OpOpen, 2, 0))
	s.Step(0)
	told(t, s, 1, fail(api.ErrDeskVictim))
	told(t, s, 0)
	b := codec.Ask(req(api.ReqBegin))
	s.Send(1, b)
	clear(b)
	s.Step(1)
	told(t, s, 1, a(4))
}

func TestCrash(t *testing.T) {
	s := made(t, 64, 32, 8, 2)
	does(t, s, 0, req(api.ReqBegin), a(2))
	does(t, s, 0, op(api.OpOpen, 5, 0), a(5))
	does(t, s, 0, op(api.OpMint, 5, 9), a(9))
	send(s, 1, req(api.ReqBegin))
	s.Step(1)
	s.Send(0, nil)
	desk, dev := s.Desk(), s.Dev()
	r, err := s.Crash(nil)
	if err != api.OK || !same(r, api.Report{Won: []uint32{1}, Redone: 8}) {
		t.Errorf("Crash: %+v, %v", r, err)
	}
	world(t, s)
	if s.Desk() == desk || s.Dev() != dev || s.Desk().State(0) != 0 || s.Step(0) {
		t.Error("the desk is a new one")
	}
	told(t, s, 0)
	told(t, s, 1)
	open(t, s, 1)
	told(t, s, 0)
	does(t, s, 0, req(api.ReqBegin), a(2))
	does(t, s, 0, op(api.OpOpen, 5, 0), a(5))
	does(t, s, 0, op(api.OpMint, 5, 9), a(9))
	does(t, s, 0, req(api.ReqCommit), a(2))
	if r, err = s.Crash(nil); err != api.OK || !same(r.Won, []uint32{2}) || len(r.Lost) != 0 {
		t.Errorf("Crash: %+v, %v", r, err)
	}
	world(t, s, purse(5, 9))
	if r, err = s.Crash(nil); err != api.OK || !same(r, api.Report{}) {
		t.Errorf("Crash of nothing: %+v, %v", r, err)
	}
	world(t, s, purse(5, 9))
}

func TestCrashThatFails(t *testing.T) {
	s := made(t, 64, 32, 8, 1)
	does(t, s, 0, req(api.ReqBegin), a(2))
	for i := range 2 {
		s.Dev().Write(api.FileLog, i, make([]byte, 128))
	}
	s.Dev().Sync(api.FileLog)
	desk := s.Desk()
	if r, err := s.Crash(nil); err != api.ErrWalForm || !same(r, api.Report{}) {
		t.Errorf("Crash: %+v, %v", r, err)
	}
	if s.Desk() != desk || s.Desk().Txn(0) != 2 {
		t.Error("something else has changed")
	}
}

func TestCheckAndWrite(t *testing.T) {
	s := made(t, 64, 32, 8, 1)
	does(t, s, 0, req(api.ReqBegin), a(2))
	does(t, s, 0, op(api.OpOpen, 5, 0), a(5))
	log := s.Desk().Store().Manager().Log()
	end := log.End()
	if err := s.Check(); err != api.OK || log.Check() != end {
		t.Errorf("Check: %v", err)
	}
	if !s.Write(9) || s.Write(9) || s.Write(31) || s.Write(32) || s.Write(1<<32-1) {
		t.Error("Write")
	}
	if r, err := s.Crash(nil); err != api.OK || !same(r.Won, []uint32{1}) || !same(r.Lost, []uint32{2}) || r.Undone != 2 {
		t.Errorf("Crash: %+v, %v", r, err)
	}
	world(t, s)
	for range 400 {
		s.Check()
	}
	if err := s.Check(); err != api.ErrWalFull {
		t.Errorf("Check without room: %v", err)
	}
}

type random uint64

func (r *random) next(n int) int {
	*r = *r*6364136223846793005 + 1442695040888963407
	return int(*r>>33) % n
}

func (r *random) op() api.Op {
	return api.Op{Kind: uint8(r.next(18) + 1), Who: uint32(r.next(8)), Whom: uint32(r.next(8)), What: uint32(r.next(8)), ID: uint32(r.next(4)), N: uint64(r.next(20)), Price: uint64(r.next(20))}
}

func (r *random) fates(s *srv.Server) []api.Fate {
	var l []api.Fate
	for file := range uint8(2) {
		for i := range s.Dev().Size(file) {
			if s.Dev().Waits(file, i) > 0 {
				l = append(l, api.Fate{File: file, Sector: i, Keep: r.next(5), Torn: r.next(140)})
			}
		}
	}
	return l
}

// request is something that a session may ask for, by its state; false: nothing.
func (r *random) request(state uint8) (api.Request, bool) {
	switch state {
	case api.DeskIdle:
		return req(api.ReqBegin), true
	case api.DeskOpen:
		switch n := r.next(16); {
		case n < 11:
			return api.Request{Kind: api.ReqDo, Op: r.op()}, true
		case n < 12:
			return req(api.ReqMark), true
		case n < 13:
			return api.Request{Kind: api.ReqBack, N: uint32(r.next(3))}, true
		case n < 15:
			return req(api.ReqCommit), true
		}
		return req(api.ReqAbort), true
	}
	return api.Request{}, false
}

// after is what the model makes of transactions in a world.
func after(t *testing.T, w []api.Cell, l []api.Done) []api.Cell {
	t.Helper()
	m := model.Of(w)
	for _, x := range l {
		for i, op := range x.Ops {
			if e := x.Replies[i].Err; e == api.ErrWalFull || e == api.ErrAllocFull {
				continue // the device was too small for it: nothing was done
			}
			if got := m.Do(op); got != x.Replies[i] {
				t.Fatalf("transaction %d was answered %v, not %v", x.Txn, x.Replies[i], got)
			}
		}
	}
	return m.All()
}

// For any requests, steps, writes and checkpoints, any halt, whatever crashes leave, and restarts that are broken off: the world is what the model makes of those that were committed.
func TestWhatWasCommittedIsThere(t *testing.T) {
	for seed := range 90 {
		r := random(seed)
		strips, pages := 100, 40
		switch seed % 3 {
		case 1:
			strips = 8 + r.next(30) // the log is full soon
		case 2:
			pages = 10 + r.next(4) // the pages are
		}
		s := made(t, strips, pages, 3+r.next(6), 4)
		var was []api.Cell
		for range 5 {
			if r.next(4) > 0 {
				s.Dev().Halt(r.next(400))
			}
			sure, maybe := 0, -1 // how many of the desk's transactions lasted; the one under which the device halted
			for range 150 {
				id := r.next(4)
				if x, ok := r.request(s.Desk().State(id)); ok {
					send(s, id, x)
				}
				halted := s.Dev().Halted()
				s.Step(r.next(4))
				if n := len(s.Desk().Dones()); n > sure && !halted {
					if s.Dev().Halted() {
						maybe = n
					} else {
						sure = n
					}
				}
				if r.next(6) == 0 {
					s.Write(uint32(r.next(pages)))
				}
				if r.next(40) == 0 {
					s.Check()
				}
			}
			dones := s.Desk().Dones()
			want := after(t, was, dones[:sure])
			other := want
			if maybe >= 0 {
				other = after(t, was, dones[:maybe])
			}
			for range r.next(3) {
				s.Dev().Crash(r.fates(s))
				s.Dev().Halt(r.next(150))
				redo.Restart(s.Dev(), pages, 3)
			}
			if _, err := s.Crash(r.fates(s)); err != api.OK {
				t.Fatalf("seed %d: Crash: %v", seed, err)
			}
			open(t, s, 4)
			got, err := s.World()
			if err != api.OK || !same(got, want) && !same(got, other) {
				t.Fatalf("seed %d: the world is as by no transactions", seed)
			}
			was = got
		}
	}
}

// Won tells the transactions whose commit lasted, in their order.
func TestWon(t *testing.T) {
	s := made(t, 100, 40, 8, 3)
	for id := range 3 {
		does(t, s, id, req(api.ReqBegin), a(uint64(2+id)))
		does(t, s, id, op(api.OpOpen, uint32(id+1), 0), a(uint64(id+1)))
	}
	does(t, s, 2, req(api.ReqCommit), a(4))
	does(t, s, 0, req(api.ReqCommit), a(2))
	r, err := s.Crash(nil)
	if err != api.OK || !same(r.Won, []uint32{1, 4, 2}) || !same(r.Lost, []uint32{3}) {
		t.Errorf("Crash: %+v, %v", r, err)
	}
	world(t, s, purse(1, 0), purse(3, 0))
}

// Coins and items are as many as committed transactions made of them.
func TestNothingComesOfNothing(t *testing.T) {
	r := random(1234)
	s := made(t, 2000, 100, 8, 5)
	for range 3000 {
		id := r.next(5)
		if x, ok := r.request(s.Desk().State(id)); ok {
			send(s, id, x)
		}
		s.Step(id)
		s.Take(id)
	}
	var minted uint64
	for _, x := range s.Desk().Dones() {
		for i, op := range x.Ops {
			if x.Replies[i].Err == api.OK && op.Kind == api.OpMint {
				minted += op.N
			}
			if x.Replies[i].Err == api.OK && op.Kind == api.OpSink {
				minted -= op.N
			}
		}
	}
	if _, err := s.Crash(nil); err != api.OK {
		t.Fatal(err)
	}
	all, _ := s.World()
	if n, ok := model.Of(all).Coins(); !ok || n != minted || minted == 0 {
		t.Errorf("%d coins, %d were minted", n, minted)
	}
}

// No bytes make a call panic.
func TestAnyBytes(t *testing.T) {
	r := random(5)
	s := made(t, 50, 20, 4, 3)
	for range 3000 {
		b := make([]byte, r.next(45))
		for i := range b {
			if r.next(3) == 0 {
				b[i] = byte(r.next(256))
			}
		}
		if len(b) > 0 && r.next(2) == 0 {
			b = append(b, make([]byte, 38)...)[:38]
			b[0] = byte(r.next(7))
			b[5] = byte(r.next(20))
		}
		id := r.next(5) - 1
		s.Send(id, b)
		s.Step(id)
		for _, x := range s.Take(id) {
			if _, err := codec.Told(x); err != api.OK {
				t.Fatal(err)
			}
		}
		if r.next(500) == 0 {
			if _, err := s.Crash(r.fates(s)); err != api.OK {
				t.Fatal(err)
			}
			open(t, s, 3)
		}
	}
}
