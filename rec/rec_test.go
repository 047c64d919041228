package rec_test

import (
	"bytes"
	"fmt"
	"testing"

	"manciple/api"
	"manciple/crc"
	"manciple/num"
	"manciple/rec"
)

// same says whether two values are the same; lists that are nil and lists that are empty are.
func same(a, b any) bool { return fmt.Sprint(a) == fmt.Sprint(b) }

func data(n int) []byte { return bytes.Repeat([]byte{0xa5}, n) }

// some are records that may be.
func some() []api.Rec {
	l := []api.Rec{
		{Kind: api.RecBegin, Txn: 1},
		{Kind: api.RecCommit, Txn: 1<<32 - 1, Prev: 1<<64 - 1, Next: 1 << 63},
		{Kind: api.RecAbort, Txn: 2, Prev: 28},
		{Kind: api.RecEnd, Txn: 3, Prev: 300},
		{Kind: api.RecCheck},
		{Kind: api.RecTables},
		{Kind: api.RecChange, Txn: 1, Prev: 1, Change: api.Change{Page: 9, Slot: 3, Has: true, After: []byte{7}}},
		{Kind: api.RecChange, Txn: 1, Prev: 1, Change: api.Change{Page: 1<<32 - 1, Slot: 1<<16 - 1, Had: true, Has: true, Before: data(64), After: data(64)}},
		{Kind: api.RecUndo, Txn: 1, Prev: 99, Next: 28, Change: api.Change{Page: 9, Slot: 3, Had: true, Before: []byte{7}}},
		{Kind: api.RecUndo, Txn: 1, Prev: 99, Next: 28},
		{Kind: api.RecChange, Change: api.Change{Had: true, Has: true}},
		{Kind: api.RecTables, Txn: 7, Prev: 8, Next: 9, Txns: []api.Active{{Txn: 1, Last: 2, Undo: 3, State: 1}, {Txn: 1<<32 - 1, Last: 1<<64 - 1, State: 3}}, Pages: []api.Dirty{{Page: 5, First: 6}}},
	}
	full := api.Rec{Kind: api.RecTables}
	for i := range uint32(64) {
		full.Txns = append(full.Txns, api.Active{Txn: i, Last: uint64(i) << 40, Undo: 7, State: uint8(i%3 + 1)})
		full.Pages = append(full.Pages, api.Dirty{Page: i, First: uint64(i) << 50})
	}
	return append(l, full)
}

func encode(t *testing.T, r api.Rec) []byte {
	t.Helper()
	b, err := rec.Encode(r)
	if err != api.OK {
		t.Fatalf("Encode(%+v): %v", r, err)
	}
	return b
}

func TestEncode(t *testing.T) {
	b := encode(t, api.Rec{Kind: api.RecBegin, Txn: 0x01020304, Prev: 5, Next: 6})
	want := []byte{27, 0, 0, 0, 0, 0, 1, 4, 3, 2, 1, 5, 0, 0, 0, 0, 0, 0, 0, 6, 0, 0, 0, 0, 0, 0, 0}
	copy(want[2:], num.Put(uint64(crc.Sum(want[6:])), 4))
	if !bytes.Equal(b, want) {
		t.Errorf("a RecBegin: %x", b)
	}
	b = encode(t, api.Rec{Kind: api.RecChange, Change: api.Change{Page: 0x0807, Slot: 0x0605, Had: true, Before: []byte{1, 2}}})
	if !bytes.Equal(b[27:], []byte{7, 8, 0, 0, 5, 6, 1, 2, 1, 2, 0}) || len(b) != 38 || b[0] != 38 {
		t.Errorf("a RecChange: %x", b)
	}
	b = encode(t, api.Rec{Kind: api.RecUndo, Change: api.Change{Has: true, After: []byte{9}}})
	if !bytes.Equal(b[27:], []byte{0, 0, 0, 0, 0, 0, 2, 0, 1, 9}) {
		t.Errorf("a RecUndo: %x", b)
	}
	b = encode(t, api.Rec{Kind: api.RecTables, Txns: []api.Active{{Txn: 1, Last: 2, Undo: 3, State: 2}}, Pages: []api.Dirty{{Page: 4, First: 5}}})
	if !bytes.Equal(b[27:], []byte{1, 1, 0, 0, 0, 2, 0, 0, 0, 0, 0, 0, 0, 3, 0, 0, 0, 0, 0, 0, 0, 2, 1, 4, 0, 0, 0, 5, 0, 0, 0, 0, 0, 0, 0}) {
		t.Errorf("a RecTables: %x", b)
	}
	if n := len(encode(t, some()[len(some())-1])); n != 27+2+64*21+64*12 {
		t.Errorf("the greatest tables have %d bytes", n)
	}
}

func TestEncodeOfWhatMayNotBe(t *testing.T) {
	for i, r := range []api.Rec{
		{}, {Kind: 9}, {Kind: 255},
		{Kind: api.RecBegin, Change: api.Change{Page: 1}},
		{Kind: api.RecCommit, Change: api.Change{Slot: 1}},
		{Kind: api.RecAbort, Change: api.Change{Had: true}},
		{Kind: api.RecEnd, Change: api.Change{Has: true}},
		{Kind: api.RecCheck, Change: api.Change{Has: true, After: data(1)}},
		{Kind: api.RecTables, Change: api.Change{Had: true, Before: data(1)}},
		{Kind: api.RecBegin, Change: api.Change{Before: data(1)}},
		{Kind: api.RecChange, Txns: []api.Active{{State: 1}}},
		{Kind: api.RecCheck, Pages: []api.Dirty{{}}},
		{Kind: api.RecChange, Change: api.Change{Had: true, Before: data(65)}},
		{Kind: api.RecUndo, Change: api.Change{Has: true, After: data(65)}},
		{Kind: api.RecUndo, Change: api.Change{Had: true, After: data(1)}},
		{Kind: api.RecChange, Change: api.Change{Has: true, Before: data(1)}},
		{Kind: api.RecTables, Txns: []api.Active{{State: 0}}},
		{Kind: api.RecTables, Txns: []api.Active{{State: 1}, {State: 4}}},
		{Kind: api.RecTables, Txns: append(some()[len(some())-1].Txns, api.Active{State: 1})},
		{Kind: api.RecTables, Pages: append(some()[len(some())-1].Pages, api.Dirty{})},
	} {
		if b, err := rec.Encode(r); len(b) != 0 || err != api.ErrRecForm {
			t.Errorf("record %d: %x, %v", i, b, err)
		}
	}
	empty := api.Rec{Kind: api.RecBegin, Change: api.Change{Before: []byte{}, After: []byte{}}, Txns: []api.Active{}, Pages: []api.Dirty{}}
	if !bytes.Equal(encode(t, empty), encode(t, api.Rec{Kind: api.RecBegin})) {
		t.Error("lists that are empty and lists that are nil")
	}
}

func TestThereAndBack(t *testing.T) {
	for _, r := range some() {
		b := encode(t, r)
		for _, behind := range [][]byte{nil, {0}, data(100), b} {
			got, n, err := rec.Decode(append(bytes.Clone(b), behind...))
			if err != api.OK || n != len(b) || !same(got, r) {
				t.Errorf("Decode of %+v: %+v, %d, %v", r, got, n, err)
			}
		}
	}
}

func none(t *testing.T, what string, b []byte, want ...api.Errno) {
	t.Helper()
	r, n, err := rec.Decode(b)
	if !same(r, api.Rec{}) || n != 0 {
		t.Errorf("%s: %+v, %d beside an error", what, r, n)
	}
	for _, e := range want {
		if err == e {
			return
		}
	}
	t.Errorf("%s: %v", what, err)
}

func TestDecodeOfParts(t *testing.T) {
	for _, r := range some() {
		b := encode(t, r)
		for i := range b {
			none(t, "a part", b[:i], api.ErrRecMore)
		}
		for i := range b {
			for _, bits := range []byte{1, 0x80, 0xff} {
				c := append(bytes.Clone(b), data(3000)...)[:len(b)]
				c[i] ^= bits
				none(t, "one byte turned", c, api.ErrRecForm, api.ErrRecMore)
				if i >= 2 {
					none(t, "one byte turned", c, api.ErrRecForm)
				}
			}
		}
	}
	none(t, "nothing", nil, api.ErrRecMore)
	none(t, "noughts", make([]byte, 500), api.ErrRecMore)
}

// sealed is bytes with their LENGTH and SUM made right.
func sealed(b []byte) []byte {
	b = bytes.Clone(b)
	copy(b, num.Put(uint64(len(b)), 2))
	copy(b[2:], num.Put(uint64(crc.Sum(b[6:])), 4))
	return b
}

func TestDecodeOfWhatMayNotBe(t *testing.T) {
	begin := encode(t, api.Rec{Kind: api.RecBegin, Txn: 1})
	change := encode(t, api.Rec{Kind: api.RecChange, Change: api.Change{Had: true, Has: true, Before: data(2), After: data(3)}})
	tables := encode(t, api.Rec{Kind: api.RecTables, Txns: []api.Active{{State: 1}}, Pages: []api.Dirty{{}}})
	with := func(b []byte, at int, to byte) []byte {
		b = bytes.Clone(b)
		b[at] = to
		return sealed(b)
	}
	for what, b := range map[string][]byte{
		"kind 0":                 with(begin, 6, 0),
		"kind 9":                 with(begin, 6, 9),
		"a byte more":            sealed(append(bytes.Clone(begin), 0)),
		"no change":              with(begin, 6, api.RecChange),
		"no tables":              with(begin, 6, api.RecTables),
		"flags above 3":          with(change, 33, 7),
		"before without had":     with(change, 33, 2),
		"after without has":      with(change, 33, 1),
		"before too long":        with(change, 34, 200),
		"after longer":           with(change, 37, 4),
		"after shorter":          with(change, 37, 2),
		"state 0":                with(tables, 48, 0),
		"state 4":                with(tables, 48, 4),
		"more transactions":      with(tables, 27, 2),
		"fewer pages":            with(tables, 49, 0),
		"a change of a RecBegin": with(change, 6, api.RecBegin),
		"tables of a RecUndo":    with(tables, 6, api.RecUndo),
	} {
		none(t, what, b, api.ErrRecForm)
	}
	for _, length := range []byte{1, 5, 6, 26} {
		b := append(bytes.Clone(begin), data(50)...)
		b[0] = length
		none(t, "a short length", b, api.ErrRecForm)
	}
	long := sealed(append(append(bytes.Clone(change[:34]), 65), append(data(65), 0)...))
	none(t, "65 bytes before", long, api.ErrRecForm)
	many := append(bytes.Clone(begin), 65)
	many[6] = api.RecTables
	for range 65 {
		many = append(many, make([]byte, 20)...)
		many = append(many, 1)
	}
	none(t, "65 transactions", sealed(append(many, 0)), api.ErrRecForm)
}

func TestDecodeOfAnyBytes(t *testing.T) {
	n := uint32(1)
	for range 20000 {
		var b []byte
		for range n % 90 {
			n = n*1664525 + 1013904223
			b = append(b, byte(n>>24))
		}
		n = n*1664525 + 1013904223
		if len(b) > 27 {
			b = sealed(b)
			b[6] = byte(n>>20)%10 + 0
			b = sealed(b)
		}
		r, k, err := rec.Decode(b)
		if err != api.OK {
			continue
		}
		if again, e := rec.Encode(r); e != api.OK || !bytes.Equal(again, b[:k]) {
			t.Fatalf("Decode of %x tells %+v, whose bytes are others", b, r)
		}
	}
}

func TestTurned(t *testing.T) {
	c := api.Change{Page: 3, Slot: 4, Had: true, Before: []byte{1, 2}, After: []byte{5}}
	got := rec.Turned(c)
	if !same(got, api.Change{Page: 3, Slot: 4, Has: true, Before: []byte{5}, After: []byte{1, 2}}) {
		t.Errorf("Turned: %+v", got)
	}
	if !same(rec.Turned(got), c) {
		t.Error("Turned twice")
	}
	got.Before[0], got.After[0] = 77, 77
	if c.Before[0] != 1 || c.After[0] != 5 {
		t.Error("Turned shares memory")
	}
	if !same(rec.Turned(api.Change{}), api.Change{}) {
		t.Error("Turned of nothing")
	}
}

func TestDecodeSharesNothing(t *testing.T) {
	b := encode(t, api.Rec{Kind: api.RecChange, Change: api.Change{Has: true, After: []byte{1, 2, 3}}})
	r, _, _ := rec.Decode(b)
	clear(b)
	if !bytes.Equal(r.Change.After, []byte{1, 2, 3}) {
		t.Error("the record shares memory with the bytes")
	}
}
