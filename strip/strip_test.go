package strip_test

import (
	"bytes"
	"math"
	"testing"

	"manciple/strip"
)

// bytesOf are n bytes, no two near ones of which are alike, none of them 0.
func bytesOf(n int) []byte {
	b := make([]byte, n)
	for i := range b {
		b[i] = byte(i*7%251 + 1)
	}
	return b
}

func TestCount(t *testing.T) {
	for _, c := range [][2]int{{0, 0}, {-1, 0}, {math.MinInt, 0}, {1, 1}, {126, 1}, {127, 1}, {128, 2}, {254, 2}, {255, 3}, {math.MaxInt, math.MaxInt / 127}, {math.MaxInt - 1, math.MaxInt / 127}} {
		if got := strip.Count(c[0]); got != c[1] {
			t.Errorf("Count(%d) is %d", c[0], got)
		}
	}
}

func TestLay(t *testing.T) {
	if len(strip.Lay(nil)) != 0 || len(strip.Lay([]byte{})) != 0 {
		t.Error("Lay of nothing")
	}
	l := strip.Lay(bytesOf(128))
	if len(l) != 2 || l[0][127] != 127 || l[1][127] != 1 || l[1][0] != bytesOf(128)[127] {
		t.Fatal("Lay of 128 bytes")
	}
	for i := 1; i < 127; i++ {
		if l[1][i] != 0 {
			t.Fatalf("byte %d of the last sector", i)
		}
	}
	for _, n := range []int{1, 126, 127, 128, 254, 255, 1000} {
		b := bytesOf(n)
		l := strip.Lay(b)
		if len(l) != (n+126)/127 {
			t.Fatalf("Lay of %d bytes: %d sectors", n, len(l))
		}
		for i, s := range l {
			used := min(127, n-127*i)
			if len(s) != 128 || int(s[127]) != used || !bytes.Equal(s[:used], b[127*i:127*i+used]) {
				t.Fatalf("Lay of %d bytes: sector %d is %x", n, i, s)
			}
		}
		l[0][0]++
		if b[0] != bytesOf(1)[0] {
			t.Error("Lay shares memory with the stream")
		}
	}
}

func TestRead(t *testing.T) {
	for n := range 600 {
		b := bytesOf(n)
		if !bytes.Equal(strip.Read(strip.Lay(b)), b) {
			t.Fatalf("Read of Lay of %d bytes", n)
		}
	}
	if len(strip.Read(nil)) != 0 || len(strip.Read([][]byte{make([]byte, 128), strip.Lay(bytesOf(127))[0]})) != 0 {
		t.Error("Read of noughts")
	}
}

func TestReadStops(t *testing.T) {
	full, part := strip.Lay(bytesOf(127))[0], strip.Lay(bytesOf(5))[0]
	bad := bytes.Clone(full)
	bad[127] = 128
	worse := bytes.Clone(full)
	worse[127] = 255
	for i, c := range []struct {
		l    [][]byte
		want int
	}{
		{[][]byte{full, full, part, full}, 259},
		{[][]byte{full, part, part}, 132},
		{[][]byte{full, bad, full}, 127},
		{[][]byte{worse, full}, 0},
		{[][]byte{full, full[:127], full}, 127},
		{[][]byte{full, append(bytes.Clone(full), 1), full}, 127},
		{[][]byte{full, nil, full}, 127},
	} {
		if got := strip.Read(c.l); len(got) != c.want {
			t.Errorf("case %d: %d bytes", i, len(got))
		}
	}
	l := [][]byte{bytes.Clone(full)}
	got := strip.Read(l)
	got[0]++
	if l[0][0] != full[0] {
		t.Error("Read shares memory with the sectors")
	}
}

// A sector of a shorter stream, written over by the front of that of a longer one, is a front of the longer stream, not shorter than the shorter one.
func TestTornSectors(t *testing.T) {
	for _, c := range [][2]int{{1, 2}, {5, 127}, {100, 126}, {126, 127}, {50, 300}, {130, 200}, {127, 254}, {128, 600}} {
		b := bytesOf(c[1])
		short, long := strip.Lay(b[:c[0]]), strip.Lay(b)
		last := len(short) - 1
		for torn := range 129 {
			mixed := bytes.Clone(short[last])
			copy(mixed, long[last][:torn])
			got := strip.Read(append(append([][]byte{}, short[:last]...), mixed))
			if len(got) < c[0] || !bytes.HasPrefix(b, got) {
				t.Fatalf("%d of %d bytes, %d torn: %d bytes", c[0], c[1], torn, len(got))
			}
		}
	}
}
