package num_test

import (
	"bytes"
	"math"
	"testing"

	"manciple/num"
)

// some are numbers at and beside the powers of two.
func some() []uint64 {
	l := []uint64{0, 3, 200, 258, 1<<63 + 12345, 0x0123456789abcdef}
	for i := range 64 {
		p := uint64(1) << i
		l = append(l, p-1, p, p+1, -p)
	}
	return l
}

func TestPut(t *testing.T) {
	for _, c := range []struct {
		n     uint64
		width int
		want  []byte
	}{
		{258, 2, []byte{2, 1}},
		{258, 1, []byte{2}},
		{1, 8, []byte{1, 0, 0, 0, 0, 0, 0, 0}},
		{0x0123456789abcdef, 8, []byte{0xef, 0xcd, 0xab, 0x89, 0x67, 0x45, 0x23, 1}},
		{0x0123456789abcdef, 5, []byte{0xef, 0xcd, 0xab, 0x89, 0x67}},
		{1, 0, nil}, {1, -1, nil}, {1, 9, nil}, {1, math.MinInt, nil}, {1, math.MaxInt, nil},
	} {
		if b := num.Put(c.n, c.width); !bytes.Equal(b, c.want) {
			t.Errorf("Put(%d, %d) is %x", c.n, c.width, b)
		}
	}
}

func TestGet(t *testing.T) {
	if num.Get(nil) != 0 || num.Get([]byte{7}) != 7 || num.Get([]byte{0, 1, 2}) != 0x020100 {
		t.Error("Get of few bytes")
	}
	if num.Get([]byte{1, 2, 3, 4, 5, 6, 7, 0x88, 9, 9}) != 0x8807060504030201 {
		t.Error("Get of more than eight bytes")
	}
	for _, n := range some() {
		for width := 1; width <= 8; width++ {
			want := n
			if width < 8 {
				want = n % (1 << (8 * width))
			}
			if got := num.Get(num.Put(n, width)); got != want {
				t.Fatalf("Get of Put(%d, %d) is %d", n, width, got)
			}
		}
	}
}

func TestSigned(t *testing.T) {
	for _, c := range []struct {
		n    uint64
		bits int
		want int64
	}{
		{255, 8, -1}, {127, 8, 127}, {128, 8, -128}, {256, 8, 0}, {511, 8, -1},
		{1, 1, -1}, {2, 1, 0}, {3, 2, -1}, {5, 0, 0}, {5, -1, 0}, {5, math.MinInt, 0},
		{1 << 63, 64, math.MinInt64}, {1 << 63, 65, math.MinInt64}, {1<<64 - 1, math.MaxInt, -1},
		{1<<63 - 1, 63, -1}, {1 << 62, 63, -1 << 62}, {7, 64, 7},
	} {
		if got := num.Signed(c.n, c.bits); got != c.want {
			t.Errorf("Signed(%d, %d) is %d", c.n, c.bits, got)
		}
	}
}

func TestFold(t *testing.T) {
	for i, v := range []int64{0, -1, 1, -2, 2, -3} {
		if num.Fold(v) != uint64(i) || num.Unfold(uint64(i)) != v {
			t.Errorf("Fold(%d) is %d, Unfold(%d) is %d", v, num.Fold(v), i, num.Unfold(uint64(i)))
		}
	}
	if num.Fold(math.MaxInt64) != 1<<64-2 || num.Fold(math.MinInt64) != 1<<64-1 {
		t.Error("Fold at the ends")
	}
	for _, n := range some() {
		if num.Unfold(num.Fold(int64(n))) != int64(n) || num.Fold(num.Unfold(n)) != n {
			t.Errorf("there and back of %d", n)
		}
	}
}

func TestShifts(t *testing.T) {
	for _, by := range []uint64{64, 65, 99, 1 << 32, 1<<64 - 1} {
		if num.Left(3, by) != 0 || num.Right(1<<64-1, by) != 0 {
			t.Errorf("Left, Right by %d", by)
		}
		if num.Arith(-5, by) != -1 || num.Arith(5, by) != 0 {
			t.Errorf("Arith by %d", by)
		}
	}
	if num.Left(3, 63) != 1<<63 || num.Left(3, 0) != 3 || num.Right(1<<63, 63) != 1 || num.Right(7, 1) != 3 {
		t.Error("Left, Right")
	}
	if num.Arith(-5, 1) != -3 || num.Arith(-5, 0) != -5 || num.Arith(5, 1) != 2 || num.Arith(-5, 63) != -1 || num.Arith(math.MinInt64, 62) != -2 {
		t.Error("Arith")
	}
}

func TestTurn(t *testing.T) {
	if num.Turn(1, -1) != 1<<63 || num.Turn(1<<63, 1) != 1 || num.Turn(5, 0) != 5 {
		t.Error("Turn by one")
	}
	for _, by := range []int{0, 1, 17, 63, 64, 65, 1000, -1, -63, -64, -130, math.MaxInt, math.MinInt} {
		n := uint64(0x8123456789abcdef)
		got := num.Turn(n, by)
		for i := range 64 {
			to := ((i+by%64)%64 + 64) % 64
			if n>>i&1 != got>>to&1 {
				t.Fatalf("Turn by %d: bit %d", by, i)
			}
		}
	}
}

func TestNarrow(t *testing.T) {
	for _, c := range []struct {
		n    uint64
		want [6]int64
	}{
		{0, [6]int64{}},
		{200, [6]int64{200, 200, 200, -56, 200, 200}},
		{0x1_8765_c321, [6]int64{0x21, 0xc321, 0x8765c321, 0x21, 0xc321 - 1<<16, 0x8765c321 - 1<<32}},
		{1<<64 - 1, [6]int64{255, 65535, 1<<32 - 1, -1, -1, -1}},
	} {
		if got := num.Narrow(c.n); got != c.want {
			t.Errorf("Narrow(%d) is %d", c.n, got)
		}
	}
}

func TestLong(t *testing.T) {
	for _, c := range []struct {
		n    uint64
		want []byte
	}{
		{0, []byte{0}}, {127, []byte{127}}, {128, []byte{0x80, 1}}, {300, []byte{0xac, 2}},
		{1<<64 - 1, []byte{255, 255, 255, 255, 255, 255, 255, 255, 255, 1}},
	} {
		if b := num.Long(c.n); !bytes.Equal(b, c.want) {
			t.Errorf("Long(%d) is %x", c.n, b)
		}
	}
	for _, n := range some() {
		b := num.Long(n)
		if got, k := num.Short(append(bytes.Clone(b), 0x80, 7)); got != n || k != len(b) {
			t.Errorf("Short of Long(%d) is %d, %d", n, got, k)
		}
		for i := range b {
			if got, k := num.Short(b[:i]); got != 0 || k != 0 {
				t.Errorf("Short of a part of Long(%d) is %d, %d", n, got, k)
			}
		}
	}
}

func TestShortOfWhatIsNone(t *testing.T) {
	for _, b := range [][]byte{
		nil, {0x80}, {0x80, 0}, {0x81, 0x80, 0}, {0xff, 0x00},
		{255, 255, 255, 255, 255, 255, 255, 255, 255, 2},
		{255, 255, 255, 255, 255, 255, 255, 255, 255, 127},
		{255, 255, 255, 255, 255, 255, 255, 255, 255, 129, 0},
		{255, 255, 255, 255, 255, 255, 255, 255, 255, 0x80, 1},
		{0x80, 0x80, 0x80, 0x80, 0x80, 0x80, 0x80, 0x80, 0x80, 0},
	} {
		if n, k := num.Short(b); n != 0 || k != 0 {
			t.Errorf("Short(%x) is %d, %d", b, n, k)
		}
	}
	if n, k := num.Short([]byte{0, 5}); n != 0 || k != 1 {
		t.Error("Short of 00")
	}
}
