package clock_test

import (
	"math"
	"testing"

	"manciple/clock"
)

func full(n int) *clock.Clock {
	c := clock.New(n)
	for i := range n {
		c.Take(i)
	}
	return c
}

func pick(t *testing.T, c *clock.Clock, want int) {
	t.Helper()
	if i, ok := c.Pick(); !ok || i != want {
		t.Errorf("Pick: %d, %v, not %d", i, ok, want)
	}
}

func TestNew(t *testing.T) {
	for _, n := range []int{0, -1, 65, math.MinInt, math.MaxInt} {
		if clock.New(n) != nil {
			t.Errorf("New(%d)", n)
		}
	}
	for _, n := range []int{1, 64} {
		c := clock.New(n)
		if c == nil || c.Take(n) || !c.Take(n-1) {
			t.Errorf("New(%d)", n)
		}
	}
}

func TestExample(t *testing.T) {
	c := full(2)
	pick(t, c, 0)
	if !c.Touch(1) {
		t.Error("Touch")
	}
	pick(t, c, 0)
}

func TestTakeLeave(t *testing.T) {
	c := clock.New(3)
	for _, i := range []int{-1, 3, math.MaxInt, math.MinInt} {
		if c.Take(i) || c.Leave(i) || c.Touch(i) || c.Pin(i) || c.Unpin(i) || c.Pins(i) != 0 {
			t.Errorf("frame %d", i)
		}
	}
	if c.Leave(0) || c.Touch(0) || c.Pin(0) || c.Unpin(0) || c.Pins(0) != 0 {
		t.Error("a frame that is not taken")
	}
	pick(t, c, 0)
	if !c.Take(0) || c.Take(0) {
		t.Error("Take twice")
	}
	pick(t, c, 1)
	pick(t, c, 1) // it is not taken by that
	c.Take(1)
	c.Take(2)
	if !c.Leave(1) || c.Leave(1) {
		t.Error("Leave twice")
	}
	pick(t, c, 1)
}

func TestPins(t *testing.T) {
	c := full(2)
	if c.Unpin(0) || c.Pins(0) != 0 {
		t.Error("Unpin of what is not pinned")
	}
	if !c.Pin(0) || !c.Pin(0) || c.Pins(0) != 2 || c.Leave(0) {
		t.Error("Pin twice")
	}
	pick(t, c, 1)
	c.Pin(1)
	if i, ok := c.Pick(); ok || i != 0 {
		t.Error("Pick where all are pinned")
	}
	if !c.Unpin(0) || c.Pins(0) != 1 || c.Leave(0) || !c.Unpin(0) || c.Unpin(0) || c.Pins(0) != 0 {
		t.Error("Unpin")
	}
	pick(t, c, 0)
	if !c.Leave(0) {
		t.Error("Leave")
	}
	pick(t, c, 0)
	c.Take(0)
	if c.Pins(0) != 0 {
		t.Error("a frame that is taken is not pinned")
	}
}

// A free frame goes first, and the hand stays.
func TestFreeFramesGoFirst(t *testing.T) {
	c := full(4)
	pick(t, c, 0) // the hand is at 1, none is used
	c.Leave(3)
	pick(t, c, 3)
	c.Take(3)
	pick(t, c, 1)
	pick(t, c, 2)
	pick(t, c, 0) // 3 was used
	pick(t, c, 1)
	pick(t, c, 2)
	pick(t, c, 3)
	pick(t, c, 0)
	c.Leave(0)
	pick(t, c, 0) // the lowest one, though the hand is at 1
	pick(t, c, 0)
	c.Leave(2)
	pick(t, c, 0)
}

func TestHand(t *testing.T) {
	c := full(4)
	pick(t, c, 0)
	c.Touch(1)
	c.Pin(2)
	pick(t, c, 3) // 1 is not used any more, 2 is passed by as it is
	pick(t, c, 0)
	pick(t, c, 1)
	c.Unpin(2)
	pick(t, c, 2)
	c.Touch(0)
	c.Touch(1)
	c.Touch(2)
	c.Touch(3)
	pick(t, c, 3) // all were used: the hand goes round
	pick(t, c, 0)
	c.Pin(1)
	c.Touch(1)
	c.Pin(2)
	c.Pin(3)
	pick(t, c, 0)
	pick(t, c, 0)
	c.Unpin(1)
	pick(t, c, 0) // 1 was used all the time it was pinned
	pick(t, c, 1)
}

func TestTakenAnewIsUsed(t *testing.T) {
	c := full(3)
	pick(t, c, 0)
	c.Leave(0)
	c.Take(0)
	pick(t, c, 1)
	c.Leave(1)
	c.Take(1)
	pick(t, c, 2)
	c.Leave(2)
	c.Take(2)
	pick(t, c, 0)
	one := full(1)
	pick(t, one, 0)
	pick(t, one, 0)
}
