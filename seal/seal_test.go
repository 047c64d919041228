package seal_test

import (
	"bytes"
	"testing"

	"manciple/num"
	"manciple/seal"
)

// content are a page's bytes, that differ from one n to the next.
func content(n int) []byte {
	b := make([]byte, 448)
	for i := range b {
		b[i] = byte(i*n + i/7 + n)
	}
	return b
}

func TestSeal(t *testing.T) {
	for _, n := range []int{0, 1, 447, 449, 512} {
		if len(seal.Seal(make([]byte, n), 5)) != 0 {
			t.Errorf("Seal of %d bytes", n)
		}
	}
	b := content(3)
	for _, n := range []uint64{0, 5, 0x0102030405060708, 1<<64 - 1} {
		l := seal.Seal(b, n)
		if len(l) != 4 {
			t.Fatalf("%d sectors", len(l))
		}
		for i, s := range l {
			want := append(append(num.Put(n, 8), b[112*i:112*i+112]...), num.Put(n, 8)...)
			if !bytes.Equal(s, want) {
				t.Errorf("sector %d: %x", i, s)
			}
		}
		l[0][10]++
		l[1][0]++
		if !bytes.Equal(b, content(3)) || l[0][0] != byte(n) || l[2][0] != byte(n) {
			t.Error("sectors share memory")
		}
	}
}

func TestOpen(t *testing.T) {
	noughts := [][]byte{make([]byte, 128), make([]byte, 128), make([]byte, 128), make([]byte, 128)}
	if b, n, ok := seal.Open(noughts); !ok || n != 0 || !bytes.Equal(b, make([]byte, 448)) {
		t.Error("Open of noughts")
	}
	l := seal.Seal(content(2), 77)
	b, n, ok := seal.Open(l)
	if !ok || n != 77 || !bytes.Equal(b, content(2)) {
		t.Error("Open of Seal")
	}
	b[0]++
	if l[0][8] != content(2)[0] {
		t.Error("Open shares memory")
	}
	none := func(what string, l [][]byte) {
		t.Helper()
		if b, n, ok := seal.Open(l); ok || n != 0 || len(b) != 0 {
			t.Errorf("Open of %s: %x, %d, %v", what, b, n, ok)
		}
	}
	none("nothing", nil)
	none("three sectors", l[:3])
	none("five sectors", append(seal.Seal(content(2), 77), l[0]))
	none("a sector too short", [][]byte{l[0], l[1], l[2], l[3][:127]})
	none("a sector too long", [][]byte{append(bytes.Clone(l[0]), 0), l[1], l[2], l[3]})
	none("no sectors", make([][]byte, 4))
	for i := range 4 {
		for _, at := range []int{0, 7, 120, 127} {
			turned := seal.Seal(content(2), 77)
			turned[i][at] ^= 0x80
			none("a stamp turned", turned)
		}
		inner := seal.Seal(content(2), 77)
		inner[i][8] ^= 1
		inner[i][119] ^= 1
		if _, _, ok := seal.Open(inner); !ok {
			t.Error("the page's own bytes are not looked at")
		}
	}
}

func TestGreatest(t *testing.T) {
	if seal.Greatest(nil) != 0 || seal.Greatest([][]byte{nil, bytes.Repeat([]byte{9}, 127), bytes.Repeat([]byte{9}, 129)}) != 0 {
		t.Error("Greatest of no sectors")
	}
	l := append(seal.Seal(content(200), 7), seal.Seal(content(200), 5)...)
	if seal.Greatest(l) != 7 || seal.Greatest(l[4:]) != 5 || seal.Greatest(l[3:4]) != 7 {
		t.Error("Greatest of stamps")
	}
	copy(l[6], num.Put(1<<63, 8))
	if seal.Greatest(l) != 1<<63 {
		t.Error("Greatest of first bytes")
	}
	copy(l[2][120:], num.Put(1<<64-1, 8))
	if seal.Greatest(l) != 1<<64-1 {
		t.Error("Greatest of last bytes")
	}
}

// Of a page that was written over another one in part, either all sectors are the new one's, or all the old one's, or it is not whole.
func TestWrittenInPart(t *testing.T) {
	old, fresh := content(1), content(5)
	for which := range 16 {
		for torn := 0; torn <= 128; torn++ {
			for at := range 4 {
				l := seal.Seal(old, 300)
				for i, s := range seal.Seal(fresh, 301) {
					if which>>i&1 == 1 {
						l[i] = s
					} else if i == at {
						copy(l[i], s[:torn])
					}
				}
				b, _, ok := seal.Open(l)
				if ok && !bytes.Equal(b, old) && !bytes.Equal(b, fresh) {
					t.Fatalf("sectors %b, %d bytes of sector %d", which, torn, at)
				}
				if which == 15 && !ok || which == 0 && torn == 0 && !ok {
					t.Fatal("whole sectors")
				}
			}
		}
	}
}
