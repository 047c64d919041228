package codec_test

import (
	"bytes"
	"testing"

	"manciple/api"
	"manciple/codec"
)

func TestAsk(t *testing.T) {
	if b := codec.Ask(api.Request{Kind: api.ReqBegin}); !bytes.Equal(b, append([]byte{1}, make([]byte, 37)...)) {
		t.Errorf("a ReqBegin: %x", b)
	}
	r := api.Request{Kind: 0xf1, N: 0x04030201, Op: api.Op{Kind: 0xf2, Who: 0x14131211, Whom: 0x24232221, What: 0x34333231, ID: 0x44434241, N: 0x5857565554535251, Price: 0x6867666564636261}}
	want := []byte{0xf1, 1, 2, 3, 4, 0xf2, 0x11, 0x12, 0x13, 0x14, 0x21, 0x22, 0x23, 0x24, 0x31, 0x32, 0x33, 0x34, 0x41, 0x42, 0x43, 0x44,
		0x51, 0x52, 0x53, 0x54, 0x55, 0x56, 0x57, 0x58, 0x61, 0x62, 0x63, 0x64, 0x65, 0x66, 0x67, 0x68}
	if b := codec.Ask(r); !bytes.Equal(b, want) {
		t.Errorf("Ask: %x", b)
	}
}

func TestAsked(t *testing.T) {
	op := api.Op{Kind: 255, Who: 1<<32 - 1, Whom: 2, What: 3, ID: 4, N: 1<<64 - 1, Price: 1 << 63}
	for _, r := range []api.Request{
		{Kind: 1}, {Kind: 2}, {Kind: 2, Op: op}, {Kind: 3}, {Kind: 4}, {Kind: 4, N: 1<<32 - 1}, {Kind: 5}, {Kind: 6},
		{Kind: 2, Op: api.Op{Price: 1}},
	} {
		if got, err := codec.Asked(codec.Ask(r)); got != r || err != api.OK {
			t.Errorf("Asked of Ask(%v): %v, %v", r, got, err)
		}
	}
	none := func(what string, b []byte) {
		t.Helper()
		if r, err := codec.Asked(b); r != (api.Request{}) || err != api.ErrCodecForm {
			t.Errorf("%s: %v, %v", what, r, err)
		}
	}
	good := codec.Ask(api.Request{Kind: 2, Op: op})
	none("nothing", nil)
	none("37 bytes", good[:37])
	none("39 bytes", append(bytes.Clone(good), 0))
	for _, kind := range []uint8{0, 7, 8, 255} {
		none("no kind", codec.Ask(api.Request{Kind: kind}))
	}
	for kind := uint8(1); kind <= 6; kind++ {
		if kind != api.ReqBack {
			none("N", codec.Ask(api.Request{Kind: kind, N: 1}))
			none("N", codec.Ask(api.Request{Kind: kind, N: 1 << 31}))
		}
		if kind == api.ReqDo {
			continue
		}
		for _, op := range []api.Op{{Kind: 1}, {Who: 1}, {Whom: 1}, {What: 1}, {ID: 1}, {N: 1}, {Price: 1 << 56}} {
			none("an operation", codec.Ask(api.Request{Kind: kind, Op: op}))
		}
	}
}

func TestTell(t *testing.T) {
	r := api.Reply{Err: 0xf2f1, A: 0x1817161514131211, B: 0x2827262524232221, C: 0x3837363534333231}
	want := []byte{0xf1, 0xf2, 0x11, 0x12, 0x13, 0x14, 0x15, 0x16, 0x17, 0x18, 0x21, 0x22, 0x23, 0x24, 0x25, 0x26, 0x27, 0x28, 0x31, 0x32, 0x33, 0x34, 0x35, 0x36, 0x37, 0x38}
	if b := codec.Tell(r); !bytes.Equal(b, want) {
		t.Errorf("Tell: %x", b)
	}
	for _, r := range []api.Reply{{}, r, {Err: 65535}, {A: 1<<64 - 1}, {B: 1}, {C: 1 << 63}} {
		if got, err := codec.Told(codec.Tell(r)); got != r || err != api.OK {
			t.Errorf("Told of Tell(%v): %v, %v", r, got, err)
		}
	}
	for _, b := range [][]byte{nil, want[:25], append(bytes.Clone(want), 0)} {
		if r, err := codec.Told(b); r != (api.Reply{}) || err != api.ErrCodecForm {
			t.Errorf("Told of %d bytes: %v, %v", len(b), r, err)
		}
	}
}
