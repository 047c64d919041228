package lock_test

import (
	"fmt"
	"testing"

	"manciple/api"
	"manciple/lock"
)

// same says whether two values are the same; lists that are nil and lists that are empty are.
func same(a, b any) bool { return fmt.Sprint(a) == fmt.Sprint(b) }

func key(n uint32) api.Key { return api.Key{Kind: 1, Who: n} }

var k = key(1)

func ask(t *testing.T, l *lock.Table, txn uint32, k api.Key, mode uint8, want bool) {
	t.Helper()
	if got := l.Ask(txn, k, mode); got != want {
		t.Errorf("Ask(%d, %v, %d) is %v", txn, k, mode, got)
	}
}

func release(t *testing.T, l *lock.Table, txn uint32, want ...uint32) {
	t.Helper()
	if got := l.Release(txn); !same(got, want) {
		t.Errorf("Release(%d) is %v, not %v", txn, got, want)
	}
}

func holds(t *testing.T, l *lock.Table, txn uint32, want ...api.Hold) {
	t.Helper()
	if got := l.Holds(txn); !same(got, want) {
		t.Errorf("Holds(%d) is %v, not %v", txn, got, want)
	}
}

func waits(t *testing.T, l *lock.Table, txn uint32, want api.Hold, is bool) {
	t.Helper()
	if got, ok := l.Waits(txn); got != want || ok != is {
		t.Errorf("Waits(%d) is %v, %v", txn, got, ok)
	}
}

func edges(t *testing.T, l *lock.Table, want ...api.Edge) {
	t.Helper()
	if got := l.Edges(); !same(got, want) {
		t.Errorf("Edges is %v, not %v", got, want)
	}
}

func TestExample(t *testing.T) {
	l := lock.New()
	ask(t, l, 1, k, 1, true)
	ask(t, l, 2, k, 1, true)
	ask(t, l, 1, k, 2, false)
	ask(t, l, 3, k, 1, false)
	edges(t, l, api.Edge{From: 1, To: 2}, api.Edge{From: 3, To: 1})
	release(t, l, 2, 1)
	holds(t, l, 1, api.Hold{Key: k, Mode: 2})
	release(t, l, 1, 3)
	holds(t, l, 3, api.Hold{Key: k, Mode: 1})
}

func TestNothing(t *testing.T) {
	l := lock.New()
	release(t, l, 1)
	holds(t, l, 1)
	waits(t, l, 1, api.Hold{}, false)
	edges(t, l)
}

func TestModes(t *testing.T) {
	l := lock.New()
	for n, mode := range map[uint32]uint8{1: 2, 2: 0, 3: 7, 4: 255} {
		ask(t, l, n, key(n), mode, true)
		holds(t, l, n, api.Hold{Key: key(n), Mode: 2})
		ask(t, l, 9+n, key(n), 1, false)
		waits(t, l, 9+n, api.Hold{Key: key(n), Mode: 1}, true)
		ask(t, l, n, key(n), 1, true) // it holds more
		ask(t, l, n, key(n), 2, true)
		holds(t, l, n, api.Hold{Key: key(n), Mode: 2})
	}
	ask(t, l, 20, key(1), 9, false)
	waits(t, l, 20, api.Hold{Key: key(1), Mode: 2}, true)
}

func TestShareIsMadeOwn(t *testing.T) {
	l := lock.New()
	ask(t, l, 1, k, 1, true)
	ask(t, l, 1, k, 1, true)
	ask(t, l, 1, k, 2, true)
	holds(t, l, 1, api.Hold{Key: k, Mode: 2})
	l = lock.New()
	ask(t, l, 1, k, 1, true)
	ask(t, l, 2, k, 2, false)
	ask(t, l, 1, k, 2, true) // nobody else holds it, though one waits
	holds(t, l, 1, api.Hold{Key: k, Mode: 2})
	edges(t, l, api.Edge{From: 2, To: 1})
	release(t, l, 1, 2)
}

// Who holds the key already goes ahead of those in line that do not, behind those that do.
func TestHoldersWaitAhead(t *testing.T) {
	l := lock.New()
	for n := uint32(1); n <= 3; n++ {
		ask(t, l, n, k, 1, true)
	}
	ask(t, l, 4, k, 2, false)
	ask(t, l, 5, k, 1, false)
	ask(t, l, 2, k, 2, false)
	ask(t, l, 1, k, 2, false)
	edges(t, l,
		api.Edge{From: 1, To: 2}, api.Edge{From: 1, To: 3},
		api.Edge{From: 2, To: 1}, api.Edge{From: 2, To: 3},
		api.Edge{From: 4, To: 1}, api.Edge{From: 4, To: 2}, api.Edge{From: 4, To: 3},
		api.Edge{From: 5, To: 1}, api.Edge{From: 5, To: 2}, api.Edge{From: 5, To: 4})
	release(t, l, 3)
	release(t, l, 1, 2) // 2 was ahead of 4 and 5
	holds(t, l, 2, api.Hold{Key: k, Mode: 2})
	release(t, l, 2, 4)
	release(t, l, 4, 5)
	release(t, l, 5)
	edges(t, l)
}

// One that waits shared stands behind one that waits for an own lock, though it could share with the holders.
func TestLine(t *testing.T) {
	l := lock.New()
	ask(t, l, 1, k, 1, true)
	ask(t, l, 2, k, 2, false)
	ask(t, l, 3, k, 1, false)
	ask(t, l, 4, k, 1, false)
	edges(t, l, api.Edge{From: 2, To: 1}, api.Edge{From: 3, To: 2}, api.Edge{From: 4, To: 2}, api.Edge{From: 4, To: 3})
	release(t, l, 2, 3, 4) // gives up waiting: all behind it share
	holds(t, l, 4, api.Hold{Key: k, Mode: 1})
	ask(t, l, 5, k, 2, false)
	ask(t, l, 6, k, 1, false)
	release(t, l, 1)
	release(t, l, 3)
	release(t, l, 4, 5)
	waits(t, l, 5, api.Hold{}, false)
	waits(t, l, 6, api.Hold{Key: k, Mode: 1}, true)
	release(t, l, 6)
	waits(t, l, 6, api.Hold{}, false)
	release(t, l, 5)
}

func TestOneKeyAtATime(t *testing.T) {
	l := lock.New()
	ask(t, l, 1, key(1), 2, true)
	ask(t, l, 2, key(2), 2, true)
	ask(t, l, 2, key(1), 1, false)
	ask(t, l, 2, key(1), 1, false)
	ask(t, l, 2, key(3), 1, false) // it waits: nothing is done
	ask(t, l, 2, key(2), 1, true)  // it holds that
	ask(t, l, 2, key(2), 2, true)
	waits(t, l, 2, api.Hold{Key: key(1), Mode: 1}, true)
	ask(t, l, 3, key(3), 2, true)
	edges(t, l, api.Edge{From: 2, To: 1})
	release(t, l, 1, 2)
	holds(t, l, 2, api.Hold{Key: key(1), Mode: 1}, api.Hold{Key: key(2), Mode: 2})
}

func TestKeysAreOrdered(t *testing.T) {
	l := lock.New()
	keys := []api.Key{
		{Kind: 1, Who: 1<<32 - 1, What: 1<<32 - 1}, {Kind: 2, Who: 0, What: 9}, {Kind: 2, Who: 1, What: 0},
		{Kind: 2, Who: 1, What: 256}, {Kind: 2, Who: 256, What: 1}, {Kind: 255, Who: 0, What: 0},
	}
	var all []api.Hold
	for i := range keys {
		at := keys[(i*5+3)%6]
		ask(t, l, 9, at, 2, true)
		all = append(all, api.Hold{Key: keys[i], Mode: 2})
	}
	holds(t, l, 9, all...)
	for i := range keys {
		ask(t, l, uint32(20-i), keys[i], 1, false)
	}
	release(t, l, 9, 20, 19, 18, 17, 16, 15) // by rising keys
}

func TestAnyUse(t *testing.T) {
	seed := uint32(1)
	next := func(n int) int {
		seed = seed*1664525 + 1013904223
		return int(seed>>8) % n
	}
	for range 200 {
		l := lock.New()
		asked := map[uint32]api.Hold{} // those that were told false
		for range 60 {
			txn := uint32(next(6))
			if next(6) == 0 {
				for _, n := range l.Release(txn) {
					h, ok := asked[n]
					if !ok {
						t.Fatalf("%d got a lock, and did not wait", n)
					}
					delete(asked, n)
					if !has(l.Holds(n), h) {
						t.Fatalf("%d does not hold what it got", n)
					}
				}
				delete(asked, txn)
				if len(l.Holds(txn)) != 0 {
					t.Fatal("something is held behind Release")
				}
			} else {
				h := api.Hold{Key: key(uint32(next(4))), Mode: uint8(next(2) + 1)}
				_, waited := l.Waits(txn)
				if !l.Ask(txn, h.Key, h.Mode) && !waited {
					asked[txn] = h
				}
			}
			for n := range uint32(6) {
				h, ok := l.Waits(n)
				if want, is := asked[n]; ok != is || h != want {
					t.Fatalf("%d waits for %v, not %v", n, h, want)
				}
			}
			sound(t, l)
		}
	}
}

func has(l []api.Hold, h api.Hold) bool {
	for _, x := range l {
		if x.Key == h.Key && x.Mode >= h.Mode {
			return true
		}
	}
	return false
}

// sound checks that no two hold a key that may not, and that none waits for nobody.
func sound(t *testing.T, l *lock.Table) {
	t.Helper()
	for n := range uint32(4) {
		share, own := 0, 0
		for txn := range uint32(6) {
			for _, h := range l.Holds(txn) {
				if h.Key == key(n) && h.Mode == 1 {
					share++
				} else if h.Key == key(n) {
					own++
				}
			}
		}
		if own > 1 || own == 1 && share > 0 {
			t.Fatalf("key %d: %d share, %d own", n, share, own)
		}
	}
	from := map[uint32]int{}
	last := api.Edge{}
	for i, e := range l.Edges() {
		if i > 0 && (e.From < last.From || e.From == last.From && e.To <= last.To) || e.From == e.To {
			t.Fatalf("edges %v", l.Edges())
		}
		last = e
		from[e.From]++
	}
	for txn := range uint32(6) {
		if _, ok := l.Waits(txn); ok != (from[txn] > 0) {
			t.Fatalf("%d waits for nobody, or does not wait", txn)
		}
	}
}
