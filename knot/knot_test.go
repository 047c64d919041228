package knot_test

import (
	"fmt"
	"slices"
	"testing"

	"manciple/api"
	"manciple/knot"
)

func edges(l ...uint32) []api.Edge {
	var e []api.Edge
	for i := 0; i+1 < len(l); i += 2 {
		e = append(e, api.Edge{From: l[i], To: l[i+1]})
	}
	return e
}

func ring(t *testing.T, l []api.Edge, from uint32, want ...uint32) {
	t.Helper()
	if got := knot.Cycle(l, from); fmt.Sprint(got) != fmt.Sprint(want) {
		t.Errorf("Cycle(%v, %d) is %v, not %v", l, from, got, want)
	}
}

func TestCycle(t *testing.T) {
	l := edges(1, 3, 1, 2, 2, 1, 3, 1)
	ring(t, l, 1, 1, 2)
	ring(t, l, 2, 2, 1)
	ring(t, l, 3, 3, 1)
	ring(t, l, 4)
	ring(t, nil, 0)
	ring(t, edges(5, 5), 5, 5)
	ring(t, edges(5, 5), 4)
	ring(t, edges(1, 2, 2, 2), 1)
	ring(t, edges(0, 1, 1, 0), 0, 0, 1)
	ring(t, edges(1<<32-1, 0, 0, 1<<32-1), 1<<32-1, 1<<32-1, 0)
	ring(t, edges(1, 2, 1, 2, 2, 1, 2, 1), 1, 1, 2)
}

func TestCycleIsTheFirst(t *testing.T) {
	// the front of a longer one first
	ring(t, edges(1, 2, 2, 0, 0, 1, 2, 1), 1, 1, 2)
	ring(t, edges(5, 5, 5, 1, 1, 5), 5, 5)
	// the smaller number first, though the ring is longer
	ring(t, edges(1, 9, 9, 1, 1, 2, 2, 8, 8, 7, 7, 1), 1, 1, 2, 8, 7)
	// a way that leads to no ring is left
	ring(t, edges(1, 2, 2, 3, 3, 2, 1, 4, 4, 3, 4, 5, 5, 1), 1, 1, 4, 5)
	// none twice: from 2 the way back to 1 leads by 3, from 3 not by 2
	ring(t, edges(1, 2, 2, 3, 3, 2, 3, 1), 1, 1, 2, 3)
	ring(t, edges(1, 3, 3, 2, 2, 3, 2, 4, 3, 4, 4, 1), 1, 1, 3, 2, 4)
}

// all are all rings from one on, by trying every way.
func all(l []api.Edge, at uint32, so []uint32) [][]uint32 {
	var rings [][]uint32
	for _, e := range l {
		if e.From != at {
			continue
		}
		if e.To == so[0] {
			rings = append(rings, slices.Clone(so))
		} else if !slices.Contains(so, e.To) {
			rings = append(rings, all(l, e.To, append(slices.Clone(so), e.To))...)
		}
	}
	return rings
}

func TestCycleAgainstAllRings(t *testing.T) {
	seed := uint32(1)
	next := func(n int) uint32 {
		seed = seed*1664525 + 1013904223
		return (seed >> 8) % uint32(n)
	}
	for i := range 5000 {
		n := 3 + i%5
		var l []api.Edge
		for range next(3 * n) {
			l = append(l, api.Edge{From: next(n), To: next(n)})
		}
		was := slices.Clone(l)
		rings := all(l, 0, []uint32{0})
		if len(rings) == 0 {
			ring(t, l, 0)
			continue
		}
		slices.SortFunc(rings, slices.Compare)
		ring(t, l, 0, rings[0]...)
		if !slices.Equal(l, was) {
			t.Fatal("the edges were changed")
		}
	}
}

func TestCycleOfMany(t *testing.T) {
	var l []api.Edge
	for i := range uint32(60) { // ladders: the ways are as many as 2^60
		for _, to := range []uint32{2*i + 2, 2*i + 3} {
			l = append(l, edges(2*i, to, 2*i+1, to)...)
		}
	}
	ring(t, l, 0)
	l = append(l, edges(121, 0)...)
	if got := knot.Cycle(l, 0); len(got) != 61 || got[60] != 121 || got[59] != 118 {
		t.Errorf("Cycle: %v", got)
	}
	l = nil
	const n = 300000
	for i := range uint32(n) {
		l = append(l, api.Edge{From: i, To: (i + 1) % n})
	}
	if got := knot.Cycle(l, 5); len(got) != n || got[0] != 5 || got[n-1] != 4 {
		t.Errorf("a great ring: %d", len(got))
	}
	l[4].To = 9 // it comes back to 9, not to 5
	ring(t, l, 5)
	ring(t, append(l, edges(5, n, n, 5)...), 5, 5, n)
}

func TestVictim(t *testing.T) {
	for _, c := range []struct {
		l  []uint32
		n  uint32
		ok bool
	}{{nil, 0, false}, {[]uint32{}, 0, false}, {[]uint32{0}, 0, true}, {[]uint32{1, 2}, 2, true}, {[]uint32{7, 1<<32 - 1, 3}, 1<<32 - 1, true}, {[]uint32{9, 2, 8}, 9, true}} {
		if n, ok := knot.Victim(c.l); n != c.n || ok != c.ok {
			t.Errorf("Victim(%v) is %d, %v", c.l, n, ok)
		}
	}
}
