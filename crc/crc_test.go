package crc_test

import (
	"hash/crc32"
	"testing"

	"manciple/crc"
)

func TestSum(t *testing.T) {
	if got := crc.Sum([]byte("123456789")); got != 0xe3069283 {
		t.Errorf("Sum of 123456789 is %x", got)
	}
	if crc.Sum() != 0 || crc.Sum(nil) != 0 || crc.Sum(nil, []byte{}, nil) != 0 {
		t.Error("Sum of nothing")
	}
	table := crc32.MakeTable(crc32.Castagnoli)
	b := make([]byte, 300)
	for i := range b {
		b[i] = byte(i * i)
		if got, want := crc.Sum(b[:i]), crc32.Checksum(b[:i], table); got != want {
			t.Fatalf("Sum of %d bytes is %x, not %x", i, got, want)
		}
	}
}

func TestNext(t *testing.T) {
	if got := crc.Next(0, 0); got != 0x527d5351 {
		t.Errorf("Next(0, 0) is %x", got)
	}
	sum := uint32(0)
	for i, c := range []byte("123456789") {
		if sum = crc.Next(sum, c); sum != crc.Sum([]byte("123456789")[:i+1]) {
			t.Fatalf("Next of byte %d", i)
		}
	}
	if got := crc.Next(0xffffffff, 'x'); got != crc32.Update(0xffffffff, crc32.MakeTable(crc32.Castagnoli), []byte("x")) {
		t.Errorf("Next of a great sum is %x", got)
	}
}

func TestSumIsOneHoweverCut(t *testing.T) {
	b := []byte("a stream that is cut anywhere")
	want := crc.Sum(b)
	for i := range b {
		for j := i; j < len(b); j++ {
			if crc.Sum(b[:i], b[i:j], nil, b[j:]) != want {
				t.Fatalf("cut at %d and %d", i, j)
			}
		}
	}
}

func TestSumTellsSmallChanges(t *testing.T) {
	b := []byte("bytes that are changed in a row of bits")
	want := crc.Sum(b)
	for bit := 0; bit+32 <= 8*len(b); bit += 5 {
		for _, change := range []uint32{1, 0x80000001, 0xffffffff, 0x82f63b78, 0xdeadbeef} {
			c := append([]byte(nil), b...)
			for i := range 32 {
				if change>>i&1 == 1 {
					c[(bit+i)/8] ^= 1 << ((bit + i) % 8)
				}
			}
			if crc.Sum(c) == want {
				t.Fatalf("change %x from bit %d on", change, bit)
			}
		}
	}
}
