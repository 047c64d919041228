package page_test

import (
	"bytes"
	"fmt"
	"testing"

	"manciple/api"
	"manciple/num"
	"manciple/page"
)

func of(n int, b byte) []byte { return bytes.Repeat([]byte{b}, n) }

func word(p *page.Page, at int) int { return int(num.Get(p.Bytes()[at : at+2])) }

// head checks COUNT, LOW and Free.
func head(t *testing.T, p *page.Page, count, low, free int) {
	t.Helper()
	if word(p, 12) != count || word(p, 14) != low || p.Free() != free {
		t.Errorf("COUNT %d, LOW %d, Free %d", word(p, 12), word(p, 14), p.Free())
	}
}

func set(t *testing.T, p *page.Page, slot int, data []byte) {
	t.Helper()
	if err := p.Set(slot, data); err != api.OK {
		t.Errorf("Set(%d, %d bytes): %v", slot, len(data), err)
	}
}

func got(t *testing.T, p *page.Page, slot int, want []byte) {
	t.Helper()
	if b, ok := p.Get(slot); ok != (len(want) > 0) || !bytes.Equal(b, want) {
		t.Errorf("Get(%d): %x, %v", slot, b, ok)
	}
}

// check builds the page's bytes anew out of its own OFFSETs, and reads them.
func check(t *testing.T, p *page.Page) {
	t.Helper()
	b := p.Bytes()
	want := make([]byte, 448)
	copy(want, b[:12])
	count, low, all := 0, 448, 0
	for slot := range 40 {
		data, ok := p.Get(slot)
		if !ok {
			continue
		}
		at := word(p, 16+4*slot)
		count, low, all = slot+1, min(low, at), all+len(data)
		copy(want[at:], data)
		copy(want[16+4*slot:], num.Put(uint64(at), 2))
		copy(want[18+4*slot:], num.Put(uint64(len(data)), 2))
	}
	copy(want[12:], num.Put(uint64(count), 2))
	copy(want[14:], num.Put(uint64(low), 2))
	if !bytes.Equal(b, want) || p.Free() != 432-4*count-all || low < 16+4*count {
		t.Fatalf("no page: %x", b)
	}
	q, err := page.Read(b)
	if err != api.OK || !bytes.Equal(q.Bytes(), b) {
		t.Fatalf("Read of Bytes: %v", err)
	}
}

func TestNew(t *testing.T) {
	p := page.New(0x01020304)
	want := make([]byte, 448)
	copy(want[8:], []byte{4, 3, 2, 1, 0, 0, 0xc0, 1})
	if !bytes.Equal(p.Bytes(), want) || p.Number() != 0x01020304 || p.LSN() != 0 || len(p.Slots()) != 0 {
		t.Error("New")
	}
	head(t, p, 0, 448, 432)
	p.Stamp(1<<64 - 2)
	if p.LSN() != 1<<64-2 || !bytes.Equal(p.Bytes()[:8], num.Put(1<<64-2, 8)) || p.Number() != 0x01020304 {
		t.Error("Stamp")
	}
}

func TestExample(t *testing.T) {
	p := page.New(7)
	set(t, p, 1, []byte{1, 2})
	head(t, p, 2, 446, 422)
	set(t, p, 0, of(64, 9))
	head(t, p, 2, 382, 358)
	if !p.Clear(1) {
		t.Error("Clear(1)")
	}
	head(t, p, 1, 382, 364)
	if !bytes.Equal(p.Bytes()[446:], []byte{0, 0}) {
		t.Error("bytes of no slot are noughts")
	}
	set(t, p, 1, []byte{3, 4, 5})
	head(t, p, 2, 379, 357)
	got(t, p, 1, []byte{3, 4, 5})
	got(t, p, 0, of(64, 9))
	check(t, p)
	if fmt.Sprint(p.Slots()) != "[0 1]" {
		t.Errorf("Slots: %v", p.Slots())
	}
}

func TestSetOfWhatMayNotBe(t *testing.T) {
	p := page.New(7)
	set(t, p, 3, of(64, 1))
	was := p.Bytes()
	for _, c := range []struct {
		slot int
		data []byte
	}{{-1, of(1, 1)}, {40, of(1, 1)}, {1 << 40, of(1, 1)}, {0, nil}, {0, []byte{}}, {3, of(65, 1)}, {3, nil}, {99, of(65, 1)}} {
		if err := p.Set(c.slot, c.data); err != api.ErrPageSlot {
			t.Errorf("Set(%d, %d bytes): %v", c.slot, len(c.data), err)
		}
	}
	for _, slot := range []int{-1, 0, 2, 4, 39, 40, 65536, -1 << 40} {
		if b, ok := p.Get(slot); ok || len(b) != 0 || p.Clear(slot) {
			t.Errorf("slot %d has something", slot)
		}
	}
	if !bytes.Equal(p.Bytes(), was) {
		t.Error("the page was changed")
	}
	set(t, p, 39, of(1, 1))
	head(t, p, 40, 383, 432-160-65)
	if !p.Clear(39) {
		t.Error("Clear(39)")
	}
	head(t, p, 4, 384, 432-16-64)
	check(t, p)
}

func TestFull(t *testing.T) {
	p := page.New(7)
	for slot := range 6 {
		set(t, p, slot, of(64, byte(slot+1)))
	}
	head(t, p, 6, 64, 432-24-384) // 24 are left
	was := p.Bytes()
	for _, c := range [][2]int{{6, 21}, {10, 5}, {12, 1}, {39, 1}, {6, 64}} {
		if err := p.Set(c[0], of(c[1], 9)); err != api.ErrPageFull {
			t.Errorf("Set(%d, %d bytes): %v", c[0], c[1], err)
		}
	}
	if !bytes.Equal(p.Bytes(), was) {
		t.Error("the page was changed")
	}
	set(t, p, 6, of(20, 9))
	head(t, p, 7, 44, 0)
	check(t, p)
	set(t, p, 6, of(20, 8)) // in its own place
	set(t, p, 5, of(64, 7))
	head(t, p, 7, 44, 0)
	got(t, p, 6, of(20, 8))
	if err := p.Set(6, of(21, 8)); err != api.ErrPageFull {
		t.Errorf("a byte more: %v", err)
	}
	got(t, p, 6, of(20, 8))
	set(t, p, 6, of(19, 7))
	check(t, p)
}

// Data of another length goes ahead of LOW; of the same length it stays.
func TestWhereDataStand(t *testing.T) {
	p := page.New(7)
	set(t, p, 0, of(10, 1))
	set(t, p, 1, of(20, 2))
	set(t, p, 0, of(10, 3))
	head(t, p, 2, 418, 432-8-30)
	if word(p, 16) != 438 || word(p, 20) != 418 {
		t.Error("the same length stays")
	}
	set(t, p, 0, of(9, 4))
	if word(p, 16) != 409 || !bytes.Equal(p.Bytes()[438:], make([]byte, 10)) {
		t.Error("another length goes ahead of LOW")
	}
	set(t, p, 0, of(8, 5)) // it was the lowest: LOW goes back first
	if word(p, 16) != 410 {
		t.Errorf("OFFSET %d", word(p, 16))
	}
	check(t, p)
	p.Clear(0)
	head(t, p, 2, 418, 432-8-20)
	p.Clear(1)
	head(t, p, 0, 448, 432)
	if !bytes.Equal(p.Bytes(), page.New(7).Bytes()) {
		t.Error("a page whose slots were all cleared")
	}
}

func TestMovedTogether(t *testing.T) {
	p := page.New(7)
	for slot := range 6 {
		set(t, p, 5-slot, of(60, byte(6-slot))) // slot 5 stands at the end
	}
	p.Clear(5)
	head(t, p, 5, 88, 432-20-300)
	set(t, p, 0, of(50, 9)) // 60 + 32 bytes lie ahead of LOW then: no moving
	if word(p, 16) != 98 {
		t.Errorf("OFFSET %d", word(p, 16))
	}
	set(t, p, 6, of(64, 8)) // 98 - 44 are fewer: all are moved
	want := map[int]int{0: 398, 1: 338, 2: 278, 3: 218, 4: 158, 6: 94}
	for slot, at := range want {
		if word(p, 16+4*slot) != at {
			t.Errorf("slot %d stands at %d", slot, word(p, 16+4*slot))
		}
	}
	got(t, p, 0, of(50, 9))
	got(t, p, 4, of(60, 5))
	got(t, p, 6, of(64, 8))
	check(t, p)
	set(t, p, 3, of(64, 7)) // 94 - 44 = 50 are fewer: the others are moved, then slot 3 is laid
	for slot, at := range map[int]int{0: 398, 1: 338, 2: 278, 4: 218, 6: 154, 3: 90} {
		if word(p, 16+4*slot) != at {
			t.Errorf("slot %d stands at %d then", slot, word(p, 16+4*slot))
		}
	}
	check(t, p)
}

// The list grows over where data stood; they are moved ahead of that.
func TestListGrows(t *testing.T) {
	p := page.New(7)
	for slot := range 6 {
		set(t, p, slot, of(62, byte(slot+1)))
	}
	p.Clear(0)
	p.Clear(1)
	head(t, p, 6, 76, 432-24-248)
	set(t, p, 39, of(12, 9)) // the list ends at 176 then
	check(t, p)
	for slot := 2; slot < 6; slot++ {
		got(t, p, slot, of(62, byte(slot+1)))
	}
	got(t, p, 39, of(12, 9))
	head(t, p, 40, 188, 432-160-260)
}

func TestRead(t *testing.T) {
	if p, err := page.Read(make([]byte, 448)); err != api.OK || !bytes.Equal(p.Bytes(), page.New(0).Bytes()) {
		t.Error("Read of noughts")
	}
	p := page.New(9)
	p.Stamp(77)
	set(t, p, 2, []byte{1, 2, 3})
	set(t, p, 4, of(64, 4))
	p.Clear(2)
	set(t, p, 1, []byte{7, 8})
	good := p.Bytes()
	if q, err := page.Read(good); err != api.OK || !bytes.Equal(q.Bytes(), good) || q.Number() != 9 || q.LSN() != 77 {
		t.Error("Read of Bytes")
	}
	// slot 1: OFFSET 379, LENGTH 2; slot 4: OFFSET 381, LENGTH 64; LOW 379
	put := func(l ...int) []byte {
		b := bytes.Clone(good)
		for i := 0; i < len(l); i += 2 {
			copy(b[l[i]:], num.Put(uint64(l[i+1]), 2))
		}
		return b
	}
	for what, b := range map[string][]byte{
		"nothing":                       nil,
		"too few bytes":                 good[:447],
		"too many bytes":                append(bytes.Clone(good), 0),
		"few noughts":                   make([]byte, 447),
		"COUNT less":                    put(12, 4),
		"COUNT of nothing":              append(append(append(make([]byte, 12), 1, 0, 192, 1), make([]byte, 432)...), nil...),
		"COUNT more":                    put(12, 6),
		"COUNT much more":               put(12, 41),
		"COUNT greatest":                put(12, 65535),
		"LOW less":                      put(14, 378),
		"LOW more":                      put(14, 380),
		"LOW nought":                    put(14, 0),
		"an OFFSET without LENGTH":      put(16, 400),
		"slots that have the same":      put(20, 381, 14, 381, 379, 0),
		"slots that meet in part":       put(22, 3),
		"slots that meet wholly":        put(22, 64),
		"a LENGTH less":                 put(34, 63),
		"a LENGTH above 64":             put(34, 65),
		"a LENGTH past the end":         put(34, 68),
		"an OFFSET past the end":        put(32, 447),
		"an OFFSET far past the end":    put(32, 65535),
		"data in the list":              put(20, 34, 14, 34),
		"data in the head":              put(20, 0, 14, 0),
		"a byte of no slot":             put(446, 1),
		"a byte between list and LOW":   put(40, 1),
		"a byte right behind the list":  put(36, 1),
		"a byte right ahead of LOW":     put(377, 256),
		"noughts with a number":         append(append(make([]byte, 8), 7), make([]byte, 439)...),
		"a page of COUNT 0, LOW nought": append([]byte{1}, make([]byte, 447)...),
	} {
		if q, err := page.Read(b); q != nil || err != api.ErrPageForm {
			t.Errorf("%s: %v", what, err)
		}
	}
	b := bytes.Clone(good)
	q, _ := page.Read(b)
	b[381] = 99
	q.Bytes()[381] = 98
	data, _ := q.Get(4)
	data[0] = 97
	got(t, q, 4, of(64, 4))
}

func TestReadOfAnyBytes(t *testing.T) {
	seed := uint32(3)
	next := func(n int) int {
		seed = seed*1664525 + 1013904223
		return int(seed>>8) % n
	}
	p := page.New(1)
	for slot := range 10 {
		set(t, p, slot*3%10, of(slot+5, byte(slot+1)))
	}
	for range 20000 {
		b := p.Bytes()
		for range next(3) + 1 {
			b[next(60)] = byte(next(256))
		}
		if q, err := page.Read(b); err == api.OK {
			check(t, q)
			if !bytes.Equal(q.Bytes(), b) {
				t.Fatal("Read of other bytes")
			}
		}
	}
}

func TestAnyUse(t *testing.T) {
	seed := uint32(1)
	next := func(n int) int {
		seed = seed*1664525 + 1013904223
		return int(seed>>8) % n
	}
	for range 60 {
		p := page.New(5)
		want := map[int][]byte{}
		for range 300 {
			slot := next(12)
			if next(8) == 0 {
				slot = next(40)
			}
			if next(4) == 0 {
				if p.Clear(slot) != (want[slot] != nil) {
					t.Fatalf("Clear(%d)", slot)
				}
				delete(want, slot)
			} else {
				data := of(next(64)+1, byte(next(256)))
				count, all := slot+1, len(data)
				for s, d := range want {
					count = max(count, s+1)
					if s != slot {
						all += len(d)
					}
				}
				err := p.Set(slot, data)
				if full := 16+4*count+all > 448; full != (err == api.ErrPageFull) || !full && err != api.OK {
					t.Fatalf("Set(%d, %d bytes): %v", slot, len(data), err)
				}
				if err == api.OK {
					want[slot] = data
				}
			}
			check(t, p)
			for s := range 40 {
				got(t, p, s, want[s])
			}
			if len(p.Slots()) != len(want) {
				t.Fatal("Slots")
			}
		}
	}
}

// Data are moved together only if there is too little room ahead of LOW.
func TestJustEnoughRoom(t *testing.T) {
	for more := range 2 {
		p := page.New(7)
		for slot := range 6 {
			set(t, p, slot, of(60, byte(slot+1)))
		}
		p.Clear(0) // LOW is 88; a list of seven slots ends at 44
		set(t, p, 6, of(44+more, 9))
		want := 44
		if more == 1 {
			want = 448 - 300 - 45
		}
		if word(p, 16+4*6) != want {
			t.Errorf("%d bytes stand at %d, not %d", 44+more, word(p, 16+4*6), want)
		}
		check(t, p)
	}
}
