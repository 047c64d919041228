package model_test

import (
	"fmt"
	"slices"
	"testing"

	"manciple/api"
	"manciple/model"
	"manciple/recipe"
	"manciple/rule"
)

// same says whether two values are the same; lists that are nil and lists that are empty are.
func same(a, b any) bool { return fmt.Sprint(a) == fmt.Sprint(b) }

const most = uint64(api.MaxCoins)

func cell(k api.Key, a, b uint64) api.Cell {
	return api.Cell{Key: k, Value: api.Value{A: a, B: b}, Is: true}
}

func do(t *testing.T, w *model.World, op api.Op, want api.Reply) {
	t.Helper()
	if got := w.Do(op); got != want {
		t.Errorf("Do(%v): %v, not %v", op, got, want)
	}
}

func coins(t *testing.T, w *model.World, want uint64, is bool) {
	t.Helper()
	if n, ok := w.Coins(); n != want || ok != is {
		t.Errorf("Coins: %d, %v, not %d", n, ok, want)
	}
}

func items(t *testing.T, w *model.World, item uint32, want uint64, is bool) {
	t.Helper()
	if n, ok := w.Items(item); n != want || ok != is {
		t.Errorf("Items(%d): %d, %v, not %d", item, n, ok, want)
	}
}

func TestExample(t *testing.T) {
	w := model.New()
	coins(t, w, 0, true)
	if len(w.All()) != 0 {
		t.Error("New")
	}
	do(t, w, api.Op{Kind: api.OpOpen, Who: 1}, api.Reply{A: 1})
	do(t, w, api.Op{Kind: api.OpMint, Who: 1, N: 5}, api.Reply{A: 5})
	do(t, w, api.Op{Kind: api.OpDeposit, Who: 1, N: 2}, api.Reply{A: 3, B: 2})
	coins(t, w, 5, true)
	if v, ok := w.Get(rule.Purse(1)); v != (api.Value{A: 3}) || !ok {
		t.Errorf("Get: %v, %v", v, ok)
	}
	if v, ok := w.Get(rule.Purse(2)); v != (api.Value{}) || ok {
		t.Errorf("Get: %v, %v", v, ok)
	}
	if !same(w.All(), []api.Cell{cell(rule.Purse(1), 3, 0), cell(rule.Bank(1), 2, 0)}) {
		t.Errorf("All: %v", w.All())
	}
}

func TestOf(t *testing.T) {
	k := rule.Purse(1)
	l := []api.Cell{cell(rule.Stack(2, 3), 4, 5), cell(k, 1, 0), {Key: rule.Bank(1), Value: api.Value{A: 9}}, cell(k, 2, 7), {Key: k, Value: api.Value{A: 3}}}
	w := model.Of(l)
	l[0].Value.A = 99
	if !same(w.All(), []api.Cell{cell(k, 2, 7), cell(rule.Stack(2, 3), 4, 5)}) {
		t.Errorf("All: %v", w.All())
	}
	w.All()[0].Value.A = 99
	if v, _ := w.Get(k); v.A != 2 {
		t.Error("All shares memory")
	}
	if len(model.Of(nil).All()) != 0 {
		t.Error("Of nothing")
	}
}

func TestAllByKeys(t *testing.T) {
	var want []api.Cell
	for _, kind := range []uint8{0, 3, 255} {
		for _, who := range []uint32{0, 256, 1<<32 - 1} {
			for _, what := range []uint32{0, 1, 1 << 31} {
				want = append(want, cell(api.Key{Kind: kind, Who: who, What: what}, uint64(len(want)), 0))
			}
		}
	}
	l := slices.Clone(want)
	slices.Reverse(l)
	if got := model.Of(l).All(); !same(got, want) {
		t.Errorf("All: %v", got)
	}
}

func TestCoinsAndItems(t *testing.T) {
	w := model.Of([]api.Cell{
		cell(rule.Purse(1), 1, 99), cell(rule.Bank(1), 10, 99), cell(rule.Bid(7), 100, 3), cell(rule.Price(7), 5000, 0),
		cell(rule.Offer(1, 0), 1000, 0), cell(rule.Offer(1, 1), 20000, 4), cell(rule.Stack(2, 4), 300, 0), cell(rule.Stack(2, 5), 7, 0),
		cell(rule.Auction(7), 9<<32|4, 4000), cell(rule.Trade(7), 4, 4), cell(rule.Count(4), 50, 4),
	})
	coins(t, w, 1111, true)
	items(t, w, 4, 24300, true)
	items(t, w, 5, 7, true)
	items(t, w, 0, 0, true)
	items(t, w, 9, 0, true)
	coins(t, model.Of([]api.Cell{cell(rule.Purse(1), most, 0), cell(rule.Bank(1), 0, 0)}), most, true)
	coins(t, model.Of([]api.Cell{cell(rule.Purse(1), most, 0), cell(rule.Bank(1), 1, 0)}), 0, false)
	coins(t, model.Of([]api.Cell{cell(rule.Purse(1), most+1, 0)}), 0, false)
	full := model.Of([]api.Cell{cell(rule.Stack(1, 4), most, 0), cell(rule.Stack(2, 4), 1, 0), cell(rule.Stack(2, 5), 1<<63, 0), cell(rule.Stack(1, 0), most+1, 0)})
	items(t, full, 4, 0, false)
	items(t, full, 5, 0, false)
	items(t, full, 0, 0, true)
	items(t, full, 6, 0, true)
}

func TestAnErrorChangesNothing(t *testing.T) {
	w := model.Of([]api.Cell{cell(rule.Purse(1), 5, 0)})
	was := w.All()
	for _, op := range []api.Op{{}, {Kind: 99, Who: 1}, {Kind: api.OpOpen, Who: 1}, {Kind: api.OpSink, Who: 1, N: 6}, {Kind: api.OpMint, Who: 2, N: 6}} {
		if r := w.Do(op); r.Err == api.OK || r != (api.Reply{Err: r.Err}) || !same(w.All(), was) {
			t.Errorf("Do(%v): %v", op, r)
		}
	}
}

// A trade and an auction, from their beginnings to their ends.
func TestStories(t *testing.T) {
	w := model.New()
	for who := uint32(1); who <= 3; who++ {
		do(t, w, api.Op{Kind: api.OpOpen, Who: who}, api.Reply{A: uint64(who)})
		do(t, w, api.Op{Kind: api.OpMint, Who: who, N: 100}, api.Reply{A: 100})
	}
	do(t, w, api.Op{Kind: api.OpMake, Who: 1, What: 4, N: 10}, api.Reply{A: 10})
	do(t, w, api.Op{Kind: api.OpTrade, Who: 1, Whom: 2}, api.Reply{A: 1})
	do(t, w, api.Op{Kind: api.OpOffer, Who: 1, ID: 1, What: 4, N: 6}, api.Reply{A: 6})
	do(t, w, api.Op{Kind: api.OpOffer, Who: 2, ID: 1, N: 40}, api.Reply{A: 40})
	do(t, w, api.Op{Kind: api.OpAgree, Who: 1, ID: 1}, api.Reply{})
	do(t, w, api.Op{Kind: api.OpOffer, Who: 2, ID: 1, N: 30}, api.Reply{A: 30})
	do(t, w, api.Op{Kind: api.OpAgree, Who: 2, ID: 1}, api.Reply{}) // 1 must agree anew
	do(t, w, api.Op{Kind: api.OpAgree, Who: 1, ID: 1}, api.Reply{A: 1})
	do(t, w, api.Op{Kind: api.OpAgree, Who: 1, ID: 1}, api.Reply{Err: api.ErrRuleNone})
	do(t, w, api.Op{Kind: api.OpSell, Who: 2, What: 4, N: 6, Price: 20}, api.Reply{A: 1})
	do(t, w, api.Op{Kind: api.OpBid, Who: 1, ID: 1, N: 25}, api.Reply{A: 25})
	do(t, w, api.Op{Kind: api.OpBid, Who: 3, ID: 1, N: 26}, api.Reply{A: 26})
	do(t, w, api.Op{Kind: api.OpClose, Who: 2, ID: 1}, api.Reply{A: 26})
	do(t, w, api.Op{Kind: api.OpCraft, Who: 3, What: 3, N: 2}, api.Reply{A: 2})
	want := []api.Cell{
		cell(rule.Purse(1), 130, 0), cell(rule.Purse(2), 96, 0), cell(rule.Purse(3), 74, 0),
		cell(rule.Stack(1, 4), 4, 0), cell(rule.Stack(3, 2), 2, 0), cell(rule.Stack(3, 4), 4, 0), cell(rule.Stack(3, 5), 6, 0),
		cell(rule.Count(4), 1, 0), cell(rule.Count(6), 1, 0),
	}
	if !same(w.All(), want) {
		t.Errorf("All: %v", w.All())
	}
	coins(t, w, 300, true)
}

// Only minting, sinking, making, using and crafting changes how much there is.
func TestNothingComesOfNothing(t *testing.T) {
	seed := uint64(7)
	next := func(n uint64) uint64 {
		seed = seed*6364136223846793005 + 1442695040888963407
		return seed >> 20 % n
	}
	w := model.New()
	var minted uint64
	made := map[uint32]uint64{}
	done := map[uint8]int{}
	for range 12000 {
		op := api.Op{Kind: uint8(next(18)) + 1, Who: uint32(next(4)), Whom: uint32(next(4)), What: uint32(next(8)), ID: uint32(next(40)), N: next(30), Price: next(20)}
		if op.Kind == api.OpTrade || op.Kind == api.OpSell {
			op.ID = 0
		}
		if n, ok := w.Get(rule.Count(api.KindTrade)); ok && next(2) == 0 && op.Kind >= api.OpOffer && op.Kind <= api.OpBreak {
			op.ID = uint32(n.A - next(min(3, n.A)))
		}
		if n, ok := w.Get(rule.Count(api.KindAuction)); ok && next(2) == 0 && op.Kind >= api.OpBid {
			op.ID = uint32(n.A - next(min(3, n.A)))
		}
		if w.Do(op).Err != api.OK {
			continue
		}
		done[op.Kind]++
		switch op.Kind {
		case api.OpMint:
			minted += op.N
		case api.OpSink:
			minted -= op.N
		case api.OpMake:
			made[op.What] += op.N
		case api.OpUse:
			made[op.What] -= op.N
		case api.OpCraft:
			for item := range uint32(9) {
				in, out := recipe.Change(op.What, op.N, item)
				made[item] += out - in
			}
		}
		if n, ok := w.Coins(); !ok || n != minted {
			t.Fatalf("%v: %d coins, not %d", op, n, minted)
		}
		for item := range uint32(9) {
			if n, ok := w.Items(item); !ok || n != made[item] {
				t.Fatalf("%v: %d of item %d, not %d", op, n, item, made[item])
			}
		}
	}
	for kind := api.OpOpen; kind <= api.OpLook; kind++ {
		if done[kind] == 0 {
			t.Errorf("operation %d was never done", kind)
		}
	}
}
