package redo_test

import (
	"fmt"
	"testing"

	"manciple/api"
	"manciple/disk"
	"manciple/pool"
	"manciple/redo"
	"manciple/txn"
	"manciple/wal"
)

// same says whether two values are the same; lists that are nil and lists that are empty are.
func same(a, b any) bool { return fmt.Sprint(a) == fmt.Sprint(b) }

const (
	pages  = 6
	frames = 3
)

func made(t *testing.T, strips int) *txn.Manager {
	t.Helper()
	l, err := wal.New(disk.New(2+2*strips, 4*(pages+1)))
	if err != api.OK {
		t.Fatal(err)
	}
	p, err := pool.New(l, pages, frames)
	if err != api.OK {
		t.Fatal(err)
	}
	return txn.New(l, p)
}

func restart(t *testing.T, d *disk.Dev) (*txn.Manager, api.Report) {
	t.Helper()
	m, r, err := redo.Restart(d, pages, frames)
	if err != api.OK {
		t.Fatalf("Restart: %v", err)
	}
	return m, r
}

func begin(t *testing.T, m *txn.Manager) uint32 {
	t.Helper()
	n, err := m.Begin()
	if err != api.OK {
		t.Fatalf("Begin: %v", err)
	}
	return n
}

func change(t *testing.T, m *txn.Manager, n, page uint32, slot int, data string) {
	t.Helper()
	if err := m.Change(n, page, slot, data != "", []byte(data)); err != api.OK {
		t.Fatalf("Change: %v", err)
	}
}

func holds(t *testing.T, m *txn.Manager, page uint32, slot int, want string) {
	t.Helper()
	p, err := m.Pool().Get(page)
	if err != api.OK {
		t.Fatal(err)
	}
	if b, _ := p.Get(slot); string(b) != want {
		t.Errorf("slot %d of page %d holds %q, not %q", slot, page, b, want)
	}
	m.Pool().Put(page, 0)
}

func report(t *testing.T, r api.Report, won, lost []uint32, redone, undone int) {
	t.Helper()
	if !same(r, api.Report{Won: won, Lost: lost, Redone: redone, Undone: undone}) {
		t.Errorf("the report: %+v", r)
	}
}

func set(page uint32) api.Change { return api.Change{Page: page, Has: true, After: []byte("x")} }

func TestAnalyse(t *testing.T) {
	rec := func(kind uint8, n uint32) api.Rec { return api.Rec{Kind: kind, Txn: n} }
	tables := api.Rec{Kind: api.RecTables,
		Txns:  []api.Active{{Txn: 1, Last: 500, Undo: 501, State: 3}, {Txn: 9, Last: 90, Undo: 91, State: 2}, {Txn: 9, Last: 1, Undo: 1, State: 1}},
		Pages: []api.Dirty{{Page: 4, First: 3}, {Page: 5, First: 400}, {Page: 5, First: 300}, {Page: 6, First: 77}}}
	for _, c := range []struct {
		what   string
		l      []api.Rec
		txns   []api.Active
		pages  []api.Dirty
		report api.Report
	}{
		{what: "nothing"},
		{"a RecBegin", []api.Rec{rec(1, 7)}, []api.Active{{Txn: 7, Last: 10, Undo: 10, State: 1}}, nil, api.Report{}},
		{"sorted", []api.Rec{rec(1, 7), rec(1, 3)}, []api.Active{{Txn: 3, Last: 20, Undo: 20, State: 1}, {Txn: 7, Last: 10, Undo: 10, State: 1}}, nil, api.Report{}},
		{"twice the same", []api.Rec{rec(1, 7), rec(5, 7), rec(1, 7)}, []api.Active{{Txn: 7, Last: 30, Undo: 30, State: 1}}, nil, api.Report{}},
		{"changes", []api.Rec{rec(1, 7), {Kind: 2, Txn: 7, Change: set(5)}, {Kind: 2, Txn: 7, Change: set(4)}, {Kind: 2, Txn: 7, Change: set(5)}},
			[]api.Active{{Txn: 7, Last: 40, Undo: 40, State: 1}}, []api.Dirty{{Page: 4, First: 30}, {Page: 5, First: 20}}, api.Report{}},
		{"undoing", []api.Rec{rec(1, 7), {Kind: 2, Txn: 7, Change: set(5)}, {Kind: 3, Txn: 7, Next: 1 << 50, Change: api.Change{Page: 4, Had: true}}},
			[]api.Active{{Txn: 7, Last: 30, Undo: 1 << 50, State: 1}}, []api.Dirty{{Page: 4, First: 30}, {Page: 5, First: 20}}, api.Report{}},
		{"nesting changes no page", []api.Rec{rec(1, 7), {Kind: 3, Txn: 7, Next: 9}, {Kind: 2, Txn: 7, Change: api.Change{Page: 3}}},
			[]api.Active{{Txn: 7, Last: 30, Undo: 30, State: 1}}, nil, api.Report{}},
		{"those that are not known", []api.Rec{{Kind: 2, Txn: 7, Change: set(5)}, {Kind: 3, Txn: 7, Change: set(4)}, rec(5, 8), rec(6, 9), rec(4, 10)},
			nil, []api.Dirty{{Page: 4, First: 20}, {Page: 5, First: 10}}, api.Report{Won: []uint32{10}}},
		{"a commit", []api.Rec{rec(1, 7), rec(4, 7)}, []api.Active{{Txn: 7, Last: 20, Undo: 10, State: 2}}, nil, api.Report{Won: []uint32{7}}},
		{"an abort", []api.Rec{rec(1, 7), rec(5, 7)}, []api.Active{{Txn: 7, Last: 20, Undo: 10, State: 3}}, nil, api.Report{}},
		{"ends", []api.Rec{rec(1, 7), rec(1, 6), rec(4, 7), rec(6, 7), rec(5, 6), rec(6, 6)}, nil, nil, api.Report{Won: []uint32{7}}},
		{"won in order", []api.Rec{rec(1, 1), rec(1, 2), rec(4, 2), rec(4, 1), rec(6, 1), rec(6, 2), rec(4, 2)}, nil, nil, api.Report{Won: []uint32{2, 1, 2}}},
		{"a checkpoint", []api.Rec{rec(1, 1), {Kind: 2, Txn: 1, Change: set(4)}, {Kind: 2, Txn: 1, Change: set(5)}, rec(7, 0), tables},
			[]api.Active{{Txn: 1, Last: 30, Undo: 30, State: 1}, {Txn: 9, Last: 90, Undo: 91, State: 2}},
			[]api.Dirty{{Page: 4, First: 3}, {Page: 5, First: 30}, {Page: 6, First: 77}}, api.Report{}},
		{"behind a checkpoint", []api.Rec{rec(7, 0), tables, {Kind: 2, Txn: 1, Change: set(6)}, rec(6, 9)},
			[]api.Active{{Txn: 1, Last: 30, Undo: 30, State: 3}}, []api.Dirty{{Page: 4, First: 3}, {Page: 5, First: 300}, {Page: 6, First: 77}}, api.Report{}},
	} {
		var l []api.Entry
		for i, r := range c.l {
			l = append(l, api.Entry{LSN: uint64(10 * (i + 1)), Rec: r})
		}
		txns, pages, r := redo.Analyse(l)
		if !same(txns, c.txns) || !same(pages, c.pages) || !same(r, c.report) {
			t.Errorf("%s: %v, %v, %v", c.what, txns, pages, r)
		}
	}
}

func TestExample(t *testing.T) {
	m := made(t, 64)
	begin(t, m)
	change(t, m, 1, 2, 0, "a")
	m.Commit(1)
	begin(t, m)
	change(t, m, 2, 3, 0, "b")
	m.Log().Flush(1 << 60)
	d := m.Log().Dev()
	end := m.Log().End()
	d.Crash(nil)
	m, r := restart(t, d)
	report(t, r, []uint32{1}, []uint32{2}, 2, 1)
	holds(t, m, 2, 0, "a")
	holds(t, m, 3, 0, "")
	if len(m.Active()) != 0 || m.Next() != 3 || m.Reserved() != 0 || len(m.Pool().Dirty()) != 0 {
		t.Error("the manager behind")
	}
	if len(m.Log().Entries(0)) != 0 || m.Log().Base() != end+37+27 || m.Log().Base() != m.Log().End() || m.Log().Check() != 0 {
		t.Errorf("the log behind: %d", m.Log().Base())
	}
	d.Crash(nil)
	m, r = restart(t, d)
	report(t, r, nil, nil, 0, 0)
	holds(t, m, 2, 0, "a")
	if m.Next() != 1 {
		t.Errorf("NEXT of an empty log: %d", m.Next())
	}
}

func TestWhatDidNotLast(t *testing.T) {
	m := made(t, 64)
	begin(t, m)
	change(t, m, 1, 2, 0, "a")
	d := m.Log().Dev()
	d.Crash(nil)
	m, r := restart(t, d)
	report(t, r, nil, nil, 0, 0)
	holds(t, m, 2, 0, "")
}

// Pages that were written are not done anew; those that were written ahead of a commit are undone.
func TestRedoLooksAtPages(t *testing.T) {
	m := made(t, 64)
	begin(t, m)
	begin(t, m)
	change(t, m, 1, 0, 0, "a")
	change(t, m, 2, 0, 1, "b")
	change(t, m, 2, 1, 0, "c")
	m.Pool().Write(0)
	change(t, m, 1, 0, 2, "d")
	m.Commit(1)
	d := m.Log().Dev()
	d.Crash(nil)
	m, r := restart(t, d)
	report(t, r, []uint32{1}, []uint32{2}, 2, 2)
	holds(t, m, 0, 0, "a")
	holds(t, m, 0, 1, "")
	holds(t, m, 0, 2, "d")
	holds(t, m, 1, 0, "")
}

// From a checkpoint on, pages that were clean then are not looked at, and Won is that of the whole log.
func TestRestartFromCheck(t *testing.T) {
	m := made(t, 64)
	begin(t, m)
	change(t, m, 1, 0, 0, "a")
	m.Commit(1)
	begin(t, m)
	change(t, m, 2, 1, 0, "b")
	m.Pool().WriteAll()
	change(t, m, 2, 1, 1, "c")
	if err := m.Check(); err != api.OK {
		t.Fatal(err)
	}
	begin(t, m)
	change(t, m, 3, 2, 0, "d")
	m.Commit(3)
	d := m.Log().Dev()
	d.Crash(nil)
	m, r := restart(t, d)
	report(t, r, []uint32{1, 3}, []uint32{2}, 2, 2)
	for i, want := range []string{"a", "", "d"} {
		holds(t, m, uint32(i), 0, want)
	}
	holds(t, m, 1, 1, "")
	if m.Next() != 4 {
		t.Errorf("NEXT: %d", m.Next())
	}
}

func TestCheckWhereNoRecordStands(t *testing.T) {
	m := made(t, 64)
	begin(t, m)
	change(t, m, 1, 0, 0, "a")
	m.Log().Mark(2)
	d := m.Log().Dev()
	d.Crash(nil)
	_, r := restart(t, d)
	report(t, r, nil, []uint32{1}, 1, 1)
}

// Transactions are undone together, the latest change first; Lost tells the order in which that ended.
func TestOrderOfUndoing(t *testing.T) {
	m := made(t, 64)
	for range 4 {
		begin(t, m)
	}
	change(t, m, 3, 0, 0, "a")
	change(t, m, 1, 0, 1, "b")
	change(t, m, 3, 0, 2, "c")
	m.Abort(2)
	m.Log().Flush(1 << 60)
	from := m.Log().End()
	d := m.Log().Dev()
	d.Crash(nil)
	d.Halt(1 << 20)
	_, r := restart(t, d)
	report(t, r, nil, []uint32{4, 3, 1}, 3, 3)
	// what it logged still stands in the area that is not the log's any more
	var undone []uint64
	d2 := disk.Open(d.Image(0), d.Image(1))
	s := d2.Image(0)
	if s[0][8] == 1 {
		s[0] = make([]byte, 128)
	} else {
		s[1] = make([]byte, 128)
	}
	l, err := wal.Open(disk.Open(s, nil))
	if err != api.OK {
		t.Fatal(err)
	}
	for _, e := range l.Entries(from) {
		undone = append(undone, uint64(e.Rec.Kind)*10+uint64(e.Rec.Txn))
	}
	if !same(undone, []uint64{33, 31, 33, 64, 63, 61}) {
		t.Errorf("it logged %v", undone)
	}
}

func TestStatesAtTheCrash(t *testing.T) {
	m := made(t, 64)
	for range 3 {
		begin(t, m)
	}
	change(t, m, 1, 0, 0, "a")
	change(t, m, 2, 1, 0, "b")
	change(t, m, 3, 2, 0, "c")
	change(t, m, 2, 1, 1, "d")
	// 1 has committed, but not ended; 2 was being given up, and one change is undone
	l := m.Log()
	l.Append(api.Rec{Kind: api.RecCommit, Txn: 1, Prev: m.Active()[0].Last}, 0)
	l.Append(api.Rec{Kind: api.RecAbort, Txn: 2, Prev: m.Active()[1].Last}, 0)
	m.Undo(2)
	l.Flush(1 << 60)
	d := l.Dev()
	d.Crash(nil)
	m, r := restart(t, d)
	report(t, r, []uint32{1}, []uint32{3, 2}, 5, 2)
	holds(t, m, 0, 0, "a")
	for page := uint32(1); page <= 2; page++ {
		holds(t, m, page, 0, "")
		holds(t, m, page, 1, "")
	}
}

// What was nested stays, though its transaction is lost.
func TestNestedStays(t *testing.T) {
	m := made(t, 64)
	begin(t, m)
	mark, _ := m.Mark(1)
	change(t, m, 1, 0, 0, "a")
	m.Nest(1, mark)
	change(t, m, 1, 0, 1, "b")
	m.Log().Flush(1 << 60)
	d := m.Log().Dev()
	d.Crash(nil)
	m, r := restart(t, d)
	report(t, r, nil, []uint32{1}, 2, 1)
	holds(t, m, 0, 0, "a")
	holds(t, m, 0, 1, "")
}

func TestErrors(t *testing.T) {
	none := func(what string, d *disk.Dev, pages, frames int, want api.Errno) {
		t.Helper()
		m, r, err := redo.Restart(d, pages, frames)
		if m != nil || !same(r, api.Report{}) || err != want {
			t.Errorf("%s: %v, %v", what, r, err)
		}
	}
	none("an empty device", disk.New(66, 28), pages, frames, api.ErrWalForm)
	none("no device to speak of", disk.New(0, 0), pages, frames, api.ErrWalForm)
	m := made(t, 64)
	none("too many pages", m.Log().Dev(), 7, frames, api.ErrPoolForm)
	none("too few frames", m.Log().Dev(), pages, 2, api.ErrPoolForm)
	m.Log().Append(api.Rec{Kind: api.RecCommit, Txn: 1}, 0)
	m.Log().Append(api.Rec{Kind: api.RecChange, Txn: 1, Change: api.Change{Page: 6, Has: true, After: []byte("x")}}, 0)
	m.Log().Flush(1 << 60)
	none("a change of no page", m.Log().Dev(), pages, frames, api.ErrPoolNone)
	m = made(t, 8)
	m.Begin()
	for m.Log().Room() >= 27 {
		m.Log().Append(api.Rec{Kind: api.RecCommit, Txn: 1}, 0)
	}
	m.Log().Flush(1 << 60)
	none("no room for a RecEnd", m.Log().Dev(), pages, frames, api.ErrWalFull)
	m = made(t, 8)
	m.Begin()
	for m.Log().Room() >= 27 {
		m.Log().Append(api.Rec{Kind: api.RecCheck}, 0)
	}
	m.Log().Flush(1 << 60)
	none("no room to undo", m.Log().Dev(), pages, frames, api.ErrWalFull)
}

func TestNextAfterTheGreatest(t *testing.T) {
	m := made(t, 64)
	m.Log().Append(api.Rec{Kind: api.RecEnd, Txn: 1<<32 - 1}, 0)
	m.Log().Flush(1 << 60)
	m, _ = restart(t, m.Log().Dev())
	if m.Next() != 0 {
		t.Errorf("NEXT: %d", m.Next())
	}
	m = made(t, 64)
	m.Log().Append(api.Rec{Kind: api.RecEnd, Txn: 70}, 0)
	m.Log().Append(api.Rec{Kind: api.RecEnd, Txn: 7}, 0)
	m.Check()
	m, _ = restart(t, m.Log().Dev())
	if m.Next() != 71 {
		t.Errorf("NEXT: %d", m.Next())
	}
}

// world is what committed transactions made.
type world map[[2]int]string

// is says whether the pages are as a world is.
func (w world) is(t *testing.T, m *txn.Manager) bool {
	t.Helper()
	same := true
	for page := range uint32(pages) {
		p, err := m.Pool().Get(page)
		if err != api.OK {
			t.Fatal(err)
		}
		for slot := range 12 {
			b, _ := p.Get(slot)
			same = same && string(b) == w[[2]int{int(page), slot}]
		}
		m.Pool().Put(page, 0)
	}
	return same
}

// Whatever is done, wherever the device halts, whatever a crash leaves and however often a restart is broken off: the pages are as by the transactions that committed.
func TestAnyCrash(t *testing.T) {
	seed := uint32(5)
	next := func(n int) int {
		seed = seed*1664525 + 1013904223
		return int(seed>>8) % n
	}
	crash := func(d *disk.Dev) {
		var fates []api.Fate
		for file := range uint8(2) {
			for i := range d.Size(file) {
				if d.Waits(file, i) > 0 {
					fates = append(fates, api.Fate{File: file, Sector: i, Keep: next(4), Torn: next(140)})
				}
			}
		}
		d.Crash(fates)
	}
	for round := range 400 {
		m := made(t, 20)
		d := m.Log().Dev()
		w, maybe := world{}, world{}
		for range 3 {
			d.Halt(next(150))
			mine := map[uint32]world{}
			for range 40 {
				l := m.Active()
				if len(l) < 3 && next(3) == 0 {
					taken := map[uint32]bool{m.Next() % 3: false}
					for _, a := range l {
						taken[a.Txn%3] = true
					}
					if n := m.Next(); !taken[n%3] {
						if _, err := m.Begin(); err == api.OK {
							mine[n] = world{}
						}
					}
					continue
				}
				if next(10) == 0 {
					m.Pool().Write(uint32(next(pages)))
				}
				if next(25) == 0 {
					m.Check()
				}
				if len(l) == 0 {
					continue
				}
				n := l[next(len(l))].Txn
				switch next(9) {
				case 0:
					halted := d.Halted()
					// of a device that was halted, pages may not come back as they went: what was given up may still stand then
					if err := m.Commit(n); err != api.OK && !halted {
						t.Fatalf("Commit: %v", err)
					}
					if !halted {
						maybe = world{}
						for k, v := range w {
							maybe[k] = v
						}
						for k, v := range mine[n] {
							maybe[k] = v
						}
						if !d.Halted() {
							w = maybe
						}
					}
				case 1:
					if err := m.Abort(n); err != api.OK && !d.Halted() {
						t.Fatalf("Abort: %v", err)
					}
				default:
					k := [2]int{next(pages), next(4)*3 + int(n%3)}
					data := "some data"[:next(9)]
					if m.Change(n, uint32(k[0]), k[1], data != "", []byte(data)) == api.OK {
						mine[n][k] = data
					}
				}
			}
			crash(d)
			for broken := next(4); broken > 0; broken-- {
				d.Halt(next(120))
				redo.Restart(d, pages, frames)
				crash(d)
			}
			m, _ = restart(t, d)
			switch {
			case w.is(t, m):
			case maybe.is(t, m):
				w = maybe
			default:
				t.Fatalf("round %d: the pages are as by no transactions", round)
			}
			if len(m.Active()) != 0 || len(m.Log().Entries(0)) != 0 {
				t.Fatal("something is left")
			}
		}
	}
}

// A restart makes no more calls of the device than some for each record, sector and page.
func TestCallsOfARestart(t *testing.T) {
	m := made(t, 40)
	for m.Log().Room() > 3000 {
		n := begin(t, m)
		for i := range 10 {
			change(t, m, n, uint32(i%pages), i, "some")
		}
		m.Commit(n)
	}
	n := begin(t, m)
	for i := range 20 {
		change(t, m, n, uint32(i%pages), i%10, "more")
	}
	m.Log().Flush(1 << 60)
	d := m.Log().Dev()
	d.Crash(nil)
	records := len(m.Log().Entries(0)) + 22
	d.Halt(2*(records*10+d.Size(0)+d.Size(1)) + 100)
	restart(t, d)
	if d.Halted() {
		t.Error("a restart makes too many calls")
	}
}

// lay appends records, each with its change, and makes them last.
func lay(t *testing.T, m *txn.Manager, l ...api.Rec) []uint64 {
	t.Helper()
	var places []uint64
	for _, r := range l {
		place, err := m.Log().Append(r, 0)
		if err != api.OK {
			t.Fatalf("Append: %v", err)
		}
		places = append(places, place)
	}
	m.Log().Flush(1 << 60)
	return places
}

// All that had committed, and not ended, end so; none of them is undone.
func TestSeveralThatHadCommitted(t *testing.T) {
	m := made(t, 64)
	for n := uint32(1); n <= 3; n++ {
		begin(t, m)
		change(t, m, n, n, 0, "a")
	}
	for _, n := range []uint32{3, 1, 2} {
		lay(t, m, api.Rec{Kind: api.RecCommit, Txn: n, Prev: m.Active()[n-1].Last})
	}
	d := m.Log().Dev()
	d.Crash(nil)
	m, r := restart(t, d)
	report(t, r, []uint32{3, 1, 2}, nil, 3, 0)
	for page := uint32(1); page <= 3; page++ {
		holds(t, m, page, 0, "a")
	}
}

// A page lacks only what its First says, and nesting clears nothing.
func TestRedoFromFirst(t *testing.T) {
	m := made(t, 64)
	places := lay(t, m,
		api.Rec{Kind: api.RecChange, Txn: 1, Change: api.Change{Page: 2, Has: true, After: []byte("early")}},
		api.Rec{Kind: api.RecChange, Txn: 1, Change: api.Change{Page: 2, Slot: 1, Has: true, After: []byte("late")}},
		api.Rec{Kind: api.RecChange, Txn: 1, Change: api.Change{Page: 4, Has: true, After: []byte("not told")}},
		api.Rec{Kind: api.RecChange, Txn: 1, Change: api.Change{Page: 0, Has: true, After: []byte("first")}},
		api.Rec{Kind: api.RecUndo, Txn: 1},
		api.Rec{Kind: api.RecCheck})
	lay(t, m, api.Rec{Kind: api.RecTables, Pages: []api.Dirty{{Page: 0, First: 1}, {Page: 2, First: places[1]}}})
	m.Log().Mark(places[5])
	d := m.Log().Dev()
	d.Crash(nil)
	m, r := restart(t, d)
	report(t, r, nil, nil, 2, 0)
	holds(t, m, 0, 0, "first")
	holds(t, m, 2, 0, "")
	holds(t, m, 2, 1, "late")
	holds(t, m, 4, 0, "")
}

// Of several with the same Undo the lowest number is first.
func TestLowestNumberFirst(t *testing.T) {
	m := made(t, 64)
	places := lay(t, m, api.Rec{Kind: api.RecCheck}, api.Rec{Kind: api.RecTables, Txns: []api.Active{
		{Txn: 9, State: api.TxnAborts}, {Txn: 5, State: api.TxnRuns}, {Txn: 7, Undo: 3, State: api.TxnRuns}, {Txn: 8, State: api.TxnAborts}}})
	m.Log().Mark(places[0])
	d := m.Log().Dev()
	d.Crash(nil)
	m, r := restart(t, d)
	report(t, r, nil, []uint32{7, 5, 8, 9}, 0, 0)
	if m.Next() != 1 {
		t.Errorf("NEXT: %d", m.Next())
	}
}
