package rule_test

import (
	"fmt"
	"math"
	"testing"

	"manciple/api"
	"manciple/rule"
)

// same says whether two values are the same; lists that are nil and lists that are empty are.
func same(a, b any) bool { return fmt.Sprint(a) == fmt.Sprint(b) }

const most = uint64(api.MaxCoins)

type world map[api.Key]api.Value

// cell is what a world tells of a key; its own Key is another one, as that is not looked at.
func (w world) cell(k api.Key) api.Cell {
	v, ok := w[k]
	return api.Cell{Key: api.Key{Kind: 77}, Value: v, Is: ok}
}

// look does all look-ups of an operation: their keys, and what was seen.
func look(t *testing.T, op api.Op, w world) ([]api.Key, []api.Cell) {
	t.Helper()
	var keys []api.Key
	var seen []api.Cell
	for {
		k, ok := rule.Next(op, seen)
		if !ok {
			if k != (api.Key{}) {
				t.Errorf("%v: a key beside false", op)
			}
			return keys, seen
		}
		if puts, reply := rule.Do(op, seen); len(puts) != 0 || reply != (api.Reply{Err: api.ErrArg}) {
			t.Errorf("%v: Do with too little seen: %v, %v", op, puts, reply)
		}
		keys = append(keys, k)
		seen = append(seen, w.cell(k))
	}
}

func val(a, b uint64) api.Value { return api.Value{A: a, B: b} }

func put(k api.Key, a, b uint64) api.Put { return api.Put{Key: k, Value: val(a, b)} }

func gone(k api.Key) api.Put { return api.Put{Key: k, Gone: true} }

func err(e api.Errno) api.Reply { return api.Reply{Err: e} }

func keys(l ...api.Key) []api.Key { return l }

func puts(l ...api.Put) []api.Put { return l }

// The things of accounts 1 and 2, trade 5, auction 6.
var (
	p1, p2, p3 = rule.Purse(1), rule.Purse(2), rule.Purse(3)
	b1, b2     = rule.Bank(1), rule.Bank(2)
	trade      = rule.Trade(5)
	o0, o1     = rule.Offer(5, 0), rule.Offer(5, 1)
	auction    = rule.Auction(6)
	bid, price = rule.Bid(6), rule.Price(6)
	trades     = rule.Count(api.KindTrade)
	auctions   = rule.Count(api.KindAuction)
)

func s(who, item uint32) api.Key { return rule.Stack(who, item) }

func pair(a, b uint64) uint64 { return a<<32 | b }

func TestKeys(t *testing.T) {
	for _, c := range []struct{ got, want api.Key }{
		{p1, api.Key{Kind: 1, Who: 1}}, {b2, api.Key{Kind: 2, Who: 2}}, {s(3, 4), api.Key{Kind: 3, Who: 3, What: 4}},
		{trade, api.Key{Kind: 4, Who: 5}}, {o0, api.Key{Kind: 5, Who: 5}}, {o1, api.Key{Kind: 5, Who: 5, What: 1}},
		{auction, api.Key{Kind: 6, Who: 6}}, {bid, api.Key{Kind: 7, Who: 6}}, {price, api.Key{Kind: 7, Who: 6, What: 1}},
		{trades, api.Key{Kind: 8, Who: 4}}, {auctions, api.Key{Kind: 8, Who: 6}}, {rule.Count(255), api.Key{Kind: 8, Who: 255}},
		{rule.Offer(1<<32-1, 1<<32-2), api.Key{Kind: 5, Who: 1<<32 - 1, What: 1<<32 - 2}},
	} {
		if c.got != c.want {
			t.Errorf("%v, not %v", c.got, c.want)
		}
	}
}

type play struct {
	what  string
	op    api.Op
	w     world
	keys  []api.Key
	puts  []api.Put
	reply api.Reply
}

func check(t *testing.T, plays []play) {
	t.Helper()
	for _, c := range plays {
		got, seen := look(t, c.op, c.w)
		if !same(got, c.keys) {
			t.Errorf("%s: it looks up %v, not %v", c.what, got, c.keys)
		}
		for _, l := range [][]api.Cell{seen, append(seen[:len(seen):len(seen)], api.Cell{Value: val(9, 9), Is: true}, api.Cell{})} {
			if puts, reply := rule.Do(c.op, l); !same(puts, c.puts) || reply != c.reply {
				t.Errorf("%s: it puts %v, replies %v", c.what, puts, reply)
			}
			if _, ok := rule.Next(c.op, l); ok {
				t.Errorf("%s: one more look-up", c.what)
			}
		}
	}
}

func TestAccounts(t *testing.T) {
	op := func(kind uint8, n uint64) api.Op { return api.Op{Kind: kind, Who: 1, N: n} }
	check(t, []play{
		{"open", op(api.OpOpen, 0), nil, keys(p1), puts(put(p1, 0, 0)), api.Reply{A: 1}},
		{"open again", op(api.OpOpen, 0), world{p1: val(5, 0)}, keys(p1), nil, err(api.ErrRuleThere)},
		{"mint", op(api.OpMint, 3), world{p1: val(5, 0)}, keys(p1), puts(put(p1, 8, 0)), api.Reply{A: 8}},
		{"mint up to the most", op(api.OpMint, most-5), world{p1: val(5, 0)}, keys(p1), puts(put(p1, most, 0)), api.Reply{A: most}},
		{"mint too much", op(api.OpMint, most-4), world{p1: val(5, 0)}, keys(p1), nil, err(api.ErrMoneyGreat)},
		{"mint far too much", op(api.OpMint, 1<<64-1), world{p1: val(5, 0)}, keys(p1), nil, err(api.ErrMoneyGreat)},
		{"mint for nobody", op(api.OpMint, 3), nil, keys(p1), nil, err(api.ErrRuleNone)},
		{"sink", op(api.OpSink, 3), world{p1: val(5, 0)}, keys(p1), puts(put(p1, 2, 0)), api.Reply{A: 2}},
		{"sink all", op(api.OpSink, 5), world{p1: val(5, 0)}, keys(p1), puts(put(p1, 0, 0)), api.Reply{A: 0}},
		{"sink more", op(api.OpSink, 6), world{p1: val(5, 0)}, keys(p1), nil, err(api.ErrRuleLow)},
		{"sink far too much", op(api.OpSink, most+1), world{p1: val(5, 0)}, keys(p1), nil, err(api.ErrMoneyGreat)},
		{"sink of nobody", op(api.OpSink, 3), nil, keys(p1), nil, err(api.ErrRuleNone)},
		{"deposit", op(api.OpDeposit, 3), world{p1: val(5, 0)}, keys(p1, b1), puts(put(p1, 2, 0), put(b1, 3, 0)), api.Reply{A: 2, B: 3}},
		{"deposit more", op(api.OpDeposit, 6), world{p1: val(5, 0), b1: val(9, 0)}, keys(p1, b1), nil, err(api.ErrRuleLow)},
		{"deposit into a full bank", op(api.OpDeposit, 1), world{p1: val(5, 0), b1: val(most, 0)}, keys(p1, b1), nil, err(api.ErrMoneyGreat)},
		{"deposit of nobody", op(api.OpDeposit, 1), world{b1: val(5, 0)}, keys(p1), nil, err(api.ErrRuleNone)},
		{"draw", op(api.OpDraw, 3), world{p1: val(5, 0), b1: val(7, 0)}, keys(p1, b1), puts(put(p1, 8, 0), put(b1, 4, 0)), api.Reply{A: 8, B: 4}},
		{"draw more", op(api.OpDraw, 8), world{p1: val(5, 0), b1: val(7, 0)}, keys(p1, b1), nil, err(api.ErrRuleLow)},
		{"draw of no bank", op(api.OpDraw, 1), world{p1: val(5, 0)}, keys(p1, b1), nil, err(api.ErrRuleLow)},
		{"draw into a full purse", op(api.OpDraw, 1), world{p1: val(most, 0), b1: val(7, 0)}, keys(p1, b1), nil, err(api.ErrMoneyGreat)},
		{"draw of nobody", op(api.OpDraw, 1), world{b1: val(7, 0)}, keys(p1), nil, err(api.ErrRuleNone)},
	})
}

func TestItems(t *testing.T) {
	op := func(kind uint8, what uint32, n uint64) api.Op { return api.Op{Kind: kind, Who: 1, What: what, N: n} }
	check(t, []play{
		{"make", op(api.OpMake, 1000, 3), world{p1: val(0, 0)}, keys(p1, s(1, 1000)), puts(put(s(1, 1000), 3, 0)), api.Reply{A: 3}},
		{"make more", op(api.OpMake, 4, 3), world{p1: val(0, 0), s(1, 4): val(2, 0)}, keys(p1, s(1, 4)), puts(put(s(1, 4), 5, 0)), api.Reply{A: 5}},
		{"make too many", op(api.OpMake, 4, most), world{p1: val(0, 0), s(1, 4): val(2, 0)}, keys(p1, s(1, 4)), nil, err(api.ErrMoneyGreat)},
		{"make for nobody", op(api.OpMake, 4, 3), nil, keys(p1), nil, err(api.ErrRuleNone)},
		{"use", op(api.OpUse, 4, 3), world{p1: val(0, 0), s(1, 4): val(5, 0)}, keys(p1, s(1, 4)), puts(put(s(1, 4), 2, 0)), api.Reply{A: 2}},
		{"use all", op(api.OpUse, 4, 5), world{p1: val(0, 0), s(1, 4): val(5, 0)}, keys(p1, s(1, 4)), puts(gone(s(1, 4))), api.Reply{}},
		{"use more", op(api.OpUse, 4, 6), world{p1: val(0, 0), s(1, 4): val(5, 0)}, keys(p1, s(1, 4)), nil, err(api.ErrRuleLow)},
		{"use of none", op(api.OpUse, 4, 1), world{p1: val(0, 0)}, keys(p1, s(1, 4)), nil, err(api.ErrRuleLow)},
		{"use of nobody", op(api.OpUse, 4, 1), world{s(1, 4): val(5, 0)}, keys(p1), nil, err(api.ErrRuleNone)},
		{"look", op(api.OpLook, 4, 0), world{p1: val(1, 0), b1: val(2, 0), s(1, 4): val(3, 0)}, keys(p1, b1, s(1, 4)), nil, api.Reply{A: 1, B: 2, C: 3}},
		{"look at little", op(api.OpLook, 0, 0), world{p1: val(1, 0)}, keys(p1, b1, s(1, 0)), nil, api.Reply{A: 1}},
		{"look at nobody", op(api.OpLook, 4, 0), world{b1: val(1, 0)}, keys(p1), nil, err(api.ErrRuleNone)},
	})
}

func TestPayAndGive(t *testing.T) {
	pay := func(n uint64) api.Op { return api.Op{Kind: api.OpPay, Who: 1, Whom: 2, N: n} }
	give := func(n uint64) api.Op { return api.Op{Kind: api.OpGive, Who: 1, Whom: 2, What: 4, N: n} }
	both := world{p1: val(0, 0), p2: val(0, 0), b1: val(5, 0), b2: val(7, 0), s(1, 4): val(5, 0), s(2, 4): val(most, 0)}
	poor := world{p1: val(0, 0), p2: val(0, 0), s(1, 4): val(5, 0)}
	check(t, []play{
		{"pay", pay(3), both, keys(p2, b1, b2), puts(put(b1, 2, 0), put(b2, 10, 0)), api.Reply{A: 2}},
		{"pay all", pay(5), both, keys(p2, b1, b2), puts(put(b1, 0, 0), put(b2, 12, 0)), api.Reply{}},
		{"pay more", pay(6), both, keys(p2, b1), nil, err(api.ErrRuleLow)},
		{"pay far too much", pay(most + 1), both, keys(p2, b1), nil, err(api.ErrMoneyGreat)},
		{"pay nobody", pay(3), world{p1: val(0, 0), b1: val(5, 0)}, keys(p2), nil, err(api.ErrRuleNone)},
		{"pay into a full bank", pay(3), world{p2: val(0, 0), b1: val(5, 0), b2: val(most-2, 0)}, keys(p2, b1, b2), nil, err(api.ErrMoneyGreat)},
		{"give", give(3), poor, keys(p1, p2, s(1, 4), s(2, 4)), puts(put(s(1, 4), 2, 0), put(s(2, 4), 3, 0)), api.Reply{A: 2}},
		{"give all", give(5), poor, keys(p1, p2, s(1, 4), s(2, 4)), puts(gone(s(1, 4)), put(s(2, 4), 5, 0)), api.Reply{}},
		{"give more", give(6), poor, keys(p1, p2, s(1, 4)), nil, err(api.ErrRuleLow)},
		{"give to whom has the most", give(1), both, keys(p1, p2, s(1, 4), s(2, 4)), nil, err(api.ErrMoneyGreat)},
		{"give to nobody", give(1), world{p1: val(0, 0)}, keys(p1, p2), nil, err(api.ErrRuleNone)},
	})
	for _, w := range []world{{}, {p2: val(0, 0)}} {
		_, seen := look(t, give(1), w)
		if puts, reply := rule.Do(give(1), seen); len(puts) != 0 || reply != err(api.ErrRuleNone) {
			t.Errorf("give of nobody: %v", reply)
		}
	}
}

func TestCraft(t *testing.T) {
	op := func(what uint32, n uint64) api.Op { return api.Op{Kind: api.OpCraft, Who: 1, What: what, N: n} }
	w := world{p1: val(0, 0), s(1, 1): val(10, 0), s(1, 4): val(4, 0), s(1, 5): val(25, 0), s(1, 6): val(3, 0)}
	full := world{p1: val(0, 0), s(1, 1): val(10, 0), s(1, 4): val(4, 0), s(1, 6): val(2, 0), s(1, 7): val(most-1, 0)}
	check(t, []play{
		{"recipe 1", op(1, 5), w, keys(p1, s(1, 1), s(1, 2)), puts(gone(s(1, 1)), put(s(1, 2), 5, 0)), api.Reply{A: 5}},
		{"recipe 4", op(4, 2), w, keys(p1, s(1, 5), s(1, 6)), puts(put(s(1, 5), 7, 0), put(s(1, 6), 5, 0)), api.Reply{A: 2}},
		{"recipe 5", op(5, 2), w, keys(p1, s(1, 1), s(1, 4), s(1, 6), s(1, 7)), puts(gone(s(1, 1)), gone(s(1, 4)), put(s(1, 6), 1, 0), put(s(1, 7), 2, 0)), api.Reply{A: 2}},
		{"too little", op(5, 3), w, keys(p1, s(1, 1), s(1, 4), s(1, 6), s(1, 7)), nil, err(api.ErrRuleLow)},
		{"what comes out can't be taken in", op(4, 3), w, keys(p1, s(1, 5), s(1, 6)), nil, err(api.ErrRuleLow)},
		{"too much", op(5, 2), full, keys(p1, s(1, 1), s(1, 4), s(1, 6), s(1, 7)), nil, err(api.ErrMoneyGreat)},
		{"of nobody", op(1, 1), world{s(1, 1): val(9, 0)}, keys(p1), nil, err(api.ErrRuleNone)},
		{"no recipe", op(7, 1), w, nil, nil, err(api.ErrRecipeNone)},
		{"no recipe 0 times", op(0, 0), w, nil, nil, err(api.ErrRecipeNone)},
		{"0 times", op(1, 0), w, nil, nil, err(api.ErrArg)},
		{"1001 times", op(1, 1001), w, nil, nil, err(api.ErrArg)},
	})
}

func TestTrade(t *testing.T) {
	op := api.Op{Kind: api.OpTrade, Who: 1, Whom: 2}
	check(t, []play{
		{"the first trade", op, world{p1: val(0, 0), p2: val(0, 0)}, keys(p1, p2, trades), puts(put(trades, 1, 0), put(rule.Trade(1), pair(1, 2), 0)), api.Reply{A: 1}},
		{"one more", op, world{p1: val(0, 0), p2: val(0, 0), trades: val(6, 0)}, keys(p1, p2, trades), puts(put(trades, 7, 0), put(rule.Trade(7), pair(1, 2), 0)), api.Reply{A: 7}},
		{"the last one", op, world{p1: val(0, 0), p2: val(0, 0), trades: val(math.MaxUint32-1, 0)}, keys(p1, p2, trades), puts(put(trades, math.MaxUint32, 0), put(rule.Trade(math.MaxUint32), pair(1, 2), 0)), api.Reply{A: math.MaxUint32}},
		{"no number", op, world{p1: val(0, 0), p2: val(0, 0), trades: val(math.MaxUint32, 0)}, keys(p1, p2, trades), nil, err(api.ErrLimit)},
		{"far from a number", op, world{p1: val(0, 0), p2: val(0, 0), trades: val(1<<64-1, 0)}, keys(p1, p2, trades), nil, err(api.ErrLimit)},
		{"with nobody", op, world{p1: val(0, 0)}, keys(p1, p2), nil, err(api.ErrRuleNone)},
	})
	_, seen := look(t, op, world{p2: val(0, 0)})
	if puts, reply := rule.Do(op, seen); len(puts) != 0 || reply != err(api.ErrRuleNone) {
		t.Errorf("a trade of nobody: %v", reply)
	}
}

func TestOffer(t *testing.T) {
	op := func(who, what uint32, n uint64) api.Op {
		return api.Op{Kind: api.OpOffer, Who: who, ID: 5, What: what, N: n}
	}
	with := func(more world) world {
		w := world{p1: val(10, 0), p2: val(20, 0), trade: val(pair(1, 2), 3), s(1, 4): val(6, 0), s(2, 9): val(1, 0)}
		for k, v := range more {
			w[k] = v
		}
		return w
	}
	behind := put(trade, pair(1, 2), 0)
	check(t, []play{
		{"coins", op(1, 0, 3), with(nil), keys(trade, o0, p1), puts(put(p1, 7, 0), put(o0, 3, 0), behind), api.Reply{A: 3}},
		{"of the second", op(2, 0, 3), with(nil), keys(trade, o1, p2), puts(put(p2, 17, 0), put(o1, 3, 0), behind), api.Reply{A: 3}},
		{"items", op(1, 4, 6), with(nil), keys(trade, o0, p1, s(1, 4)), puts(put(p1, 10, 0), gone(s(1, 4)), put(o0, 6, 4), behind), api.Reply{A: 6}},
		{"nothing", op(1, 4, 0), with(nil), keys(trade, o0, p1), puts(put(p1, 10, 0), gone(o0), behind), api.Reply{}},
		{"coins for coins", op(1, 0, 12), with(world{o0: val(2, 0)}), keys(trade, o0, p1), puts(put(p1, 0, 0), put(o0, 12, 0), behind), api.Reply{A: 12}},
		{"items for coins", op(1, 4, 1), with(world{o0: val(2, 0)}), keys(trade, o0, p1, s(1, 4)), puts(put(p1, 12, 0), put(s(1, 4), 5, 0), put(o0, 1, 4), behind), api.Reply{A: 1}},
		{"coins for items", op(1, 0, 10), with(world{o0: val(2, 7)}), keys(trade, o0, p1, s(1, 7)), puts(put(p1, 0, 0), put(s(1, 7), 2, 0), put(o0, 10, 0), behind), api.Reply{A: 10}},
		{"the same items", op(1, 4, 8), with(world{o0: val(2, 4)}), keys(trade, o0, p1, s(1, 4)), puts(put(p1, 10, 0), gone(s(1, 4)), put(o0, 8, 4), behind), api.Reply{A: 8}},
		{"other items", op(1, 4, 2), with(world{o0: val(2, 7)}), keys(trade, o0, p1, s(1, 7), s(1, 4)), puts(put(p1, 10, 0), put(s(1, 7), 2, 0), put(s(1, 4), 4, 0), put(o0, 2, 4), behind), api.Reply{A: 2}},
		{"nothing for items", op(1, 9, 0), with(world{o0: val(2, 7)}), keys(trade, o0, p1, s(1, 7)), puts(put(p1, 10, 0), put(s(1, 7), 2, 0), gone(o0), behind), api.Reply{}},
		{"nothing for coins", op(1, 0, 0), with(world{o0: val(2, 0)}), keys(trade, o0, p1), puts(put(p1, 12, 0), gone(o0), behind), api.Reply{}},
		{"too many coins", op(1, 0, 13), with(world{o0: val(2, 0)}), keys(trade, o0, p1), nil, err(api.ErrRuleLow)},
		{"too many items", op(1, 4, 7), with(nil), keys(trade, o0, p1, s(1, 4)), nil, err(api.ErrRuleLow)},
		{"far too many coins", op(1, 0, most+1), with(nil), keys(trade, o0, p1), nil, err(api.ErrMoneyGreat)},
		{"what comes back is too much", op(1, 0, 1), with(world{o0: val(2, 0), p1: val(most-1, 0)}), keys(trade, o0, p1), nil, err(api.ErrMoneyGreat)},
		{"no trade", op(1, 0, 1), world{p1: val(9, 0)}, keys(trade), nil, err(api.ErrRuleNone)},
		{"somebody else's", op(3, 0, 1), with(nil), keys(trade), nil, err(api.ErrRuleOwn)},
	})
}

func TestAgree(t *testing.T) {
	op := func(who uint32) api.Op { return api.Op{Kind: api.OpAgree, Who: who, ID: 5} }
	with := func(b uint64, more world) world {
		w := world{p1: val(10, 0), p2: val(20, 0), trade: val(pair(1, 2), b)}
		for k, v := range more {
			w[k] = v
		}
		return w
	}
	offers := world{o0: val(3, 0), o1: val(4, 9), s(1, 9): val(1, 0)}
	check(t, []play{
		{"the first", op(1), with(0, offers), keys(trade), puts(put(trade, pair(1, 2), 1)), api.Reply{}},
		{"the second", op(2), with(0, offers), keys(trade), puts(put(trade, pair(1, 2), 2)), api.Reply{}},
		{"the first again", op(1), with(1, offers), keys(trade), puts(put(trade, pair(1, 2), 1)), api.Reply{}},
		{"the second again", op(2), with(2, offers), keys(trade), puts(put(trade, pair(1, 2), 2)), api.Reply{}},
		{"the first behind the second", op(1), with(2, offers), keys(trade, o0, o1, p2, s(1, 9)), puts(put(p2, 23, 0), put(s(1, 9), 5, 0), gone(o0), gone(o1), gone(trade)), api.Reply{A: 1}},
		{"the second behind the first", op(2), with(1, offers), keys(trade, o0, o1, p2, s(1, 9)), puts(put(p2, 23, 0), put(s(1, 9), 5, 0), gone(o0), gone(o1), gone(trade)), api.Reply{A: 1}},
		{"one of both", op(2), with(3, offers), keys(trade, o0, o1, p2, s(1, 9)), puts(put(p2, 23, 0), put(s(1, 9), 5, 0), gone(o0), gone(o1), gone(trade)), api.Reply{A: 1}},
		{"no offers", op(2), with(1, nil), keys(trade, o0, o1), puts(gone(trade)), api.Reply{A: 1}},
		{"the second's offer", op(2), with(1, world{o1: val(7, 0)}), keys(trade, o0, o1, p1), puts(put(p1, 17, 0), gone(o1), gone(trade)), api.Reply{A: 1}},
		{"the first's offer", op(2), with(1, world{o0: val(7, 6)}), keys(trade, o0, o1, s(2, 6)), puts(put(s(2, 6), 7, 0), gone(o0), gone(trade)), api.Reply{A: 1}},
		{"too many", op(2), with(1, world{o0: val(7, 6), s(2, 6): val(most, 0), o1: val(1, 0)}), keys(trade, o0, o1, s(2, 6)), nil, err(api.ErrMoneyGreat)},
		{"no trade", op(1), nil, keys(trade), nil, err(api.ErrRuleNone)},
		{"somebody else's", op(3), with(3, offers), keys(trade), nil, err(api.ErrRuleOwn)},
	})
}

func TestBreak(t *testing.T) {
	op := func(who uint32) api.Op { return api.Op{Kind: api.OpBreak, Who: who, ID: 5} }
	w := world{p1: val(10, 0), p2: val(20, 0), trade: val(pair(1, 2), 1), o0: val(3, 0), o1: val(4, 9)}
	all := puts(put(p1, 13, 0), put(s(2, 9), 4, 0), gone(o0), gone(o1), gone(trade))
	check(t, []play{
		{"the first", op(1), w, keys(trade, o0, o1, p1, s(2, 9)), all, api.Reply{A: 1}},
		{"the second", op(2), w, keys(trade, o0, o1, p1, s(2, 9)), all, api.Reply{A: 1}},
		{"no offers", op(2), world{trade: val(pair(1, 2), 0)}, keys(trade, o0, o1), puts(gone(trade)), api.Reply{A: 1}},
		{"the second's offer", op(1), world{trade: val(pair(1, 2), 0), o1: val(4, 0)}, keys(trade, o0, o1, p2), puts(put(p2, 4, 0), gone(o1), gone(trade)), api.Reply{A: 1}},
		{"too much", op(1), world{trade: val(pair(1, 2), 0), o1: val(4, 0), p2: val(most, 0)}, keys(trade, o0, o1, p2), nil, err(api.ErrMoneyGreat)},
		{"no trade", op(1), nil, keys(trade), nil, err(api.ErrRuleNone)},
		{"somebody else's", op(3), w, keys(trade), nil, err(api.ErrRuleOwn)},
	})
}

func TestSell(t *testing.T) {
	op := func(n, price uint64) api.Op { return api.Op{Kind: api.OpSell, Who: 1, What: 4, N: n, Price: price} }
	w := world{p1: val(0, 0), s(1, 4): val(5, 0), auctions: val(8, 0), trades: val(77, 0)}
	none := world{p1: val(0, 0), s(1, 4): val(5, 0), auctions: val(math.MaxUint32, 0)}
	check(t, []play{
		{"sell", op(2, 30), w, keys(p1, s(1, 4), auctions), puts(put(s(1, 4), 3, 0), put(auctions, 9, 0), put(rule.Auction(9), pair(1, 4), 2), put(rule.Price(9), 30, 0)), api.Reply{A: 9}},
		{"sell all for nothing", op(5, 0), w, keys(p1, s(1, 4), auctions), puts(gone(s(1, 4)), put(auctions, 9, 0), put(rule.Auction(9), pair(1, 4), 5), put(rule.Price(9), 0, 0)), api.Reply{A: 9}},
		{"the first one, dear", op(1, most), world{p1: val(0, 0), s(1, 4): val(5, 0)}, keys(p1, s(1, 4), auctions), puts(put(s(1, 4), 4, 0), put(auctions, 1, 0), put(rule.Auction(1), pair(1, 4), 1), put(rule.Price(1), most, 0)), api.Reply{A: 1}},
		{"sell more", op(6, 30), w, keys(p1, s(1, 4)), nil, err(api.ErrRuleLow)},
		{"no number", op(1, 30), none, keys(p1, s(1, 4), auctions), nil, err(api.ErrLimit)},
		{"of nobody", op(1, 30), world{s(1, 4): val(5, 0)}, keys(p1), nil, err(api.ErrRuleNone)},
	})
}

func TestBid(t *testing.T) {
	op := func(who uint32, n uint64) api.Op { return api.Op{Kind: api.OpBid, Who: who, ID: 6, N: n} }
	with := func(more world) world {
		w := world{p1: val(10, 0), p2: val(20, 0), p3: val(30, 0), auction: val(pair(1, 4), 5), price: val(8, 0)}
		for k, v := range more {
			w[k] = v
		}
		return w
	}
	check(t, []play{
		{"the first bid", op(2, 8), with(nil), keys(auction, price, bid, p2), puts(put(p2, 12, 0), put(bid, 8, 2)), api.Reply{A: 8}},
		{"a greater one", op(3, 10), with(world{bid: val(9, 2)}), keys(auction, price, bid, p3, p2), puts(put(p3, 20, 0), put(p2, 29, 0), put(bid, 10, 3)), api.Reply{A: 10}},
		{"of the same one", op(2, 29), with(world{bid: val(9, 2)}), keys(auction, price, bid, p2), puts(put(p2, 0, 0), put(bid, 29, 2)), api.Reply{A: 29}},
		{"below the price", op(2, 7), with(nil), keys(auction, price, bid), nil, err(api.ErrRuleState)},
		{"not above the bid", op(3, 9), with(world{bid: val(9, 2)}), keys(auction, price, bid), nil, err(api.ErrRuleState)},
		{"above the bid, below the price", op(3, 7), with(world{bid: val(1, 2)}), keys(auction, price, bid), nil, err(api.ErrRuleState)},
		{"too much", op(2, 21), with(nil), keys(auction, price, bid, p2), nil, err(api.ErrRuleLow)},
		{"too much, though the bid comes back", op(2, 30), with(world{bid: val(9, 2)}), keys(auction, price, bid, p2), nil, err(api.ErrRuleLow)},
		{"what comes back is too much", op(3, 10), with(world{bid: val(9, 2), p2: val(most, 0)}), keys(auction, price, bid, p3, p2), nil, err(api.ErrMoneyGreat)},
		{"of nobody", op(4, 10), with(world{bid: val(9, 2)}), keys(auction, price, bid, rule.Purse(4)), nil, err(api.ErrRuleNone)},
		{"by who sells", op(1, 10), with(nil), keys(auction), nil, err(api.ErrRuleOwn)},
		{"no auction", op(2, 10), world{p2: val(20, 0), price: val(8, 0)}, keys(auction), nil, err(api.ErrRuleNone)},
	})
}

func TestClose(t *testing.T) {
	op := func(who uint32) api.Op { return api.Op{Kind: api.OpClose, Who: who, ID: 6} }
	w := world{p1: val(10, 0), auction: val(pair(1, 4), 5), price: val(8, 0), s(2, 4): val(1, 0)}
	sold := world{p1: val(10, 0), auction: val(pair(1, 4), 5), price: val(8, 0), s(2, 4): val(1, 0), bid: val(9, 2)}
	full := world{p1: val(most-8, 0), auction: val(pair(1, 4), 5), bid: val(9, 2)}
	heavy := world{p1: val(10, 0), auction: val(pair(1, 4), 5), bid: val(9, 2), s(2, 4): val(most, 0)}
	check(t, []play{
		{"without a bid", op(1), w, keys(auction, bid, s(1, 4)), puts(put(s(1, 4), 5, 0), gone(auction), gone(price)), api.Reply{}},
		{"with a bid", op(1), sold, keys(auction, bid, p1, s(2, 4)), puts(put(p1, 19, 0), put(s(2, 4), 6, 0), gone(auction), gone(price), gone(bid)), api.Reply{A: 9}},
		{"too many coins", op(1), full, keys(auction, bid, p1), nil, err(api.ErrMoneyGreat)},
		{"too many items", op(1), heavy, keys(auction, bid, p1, s(2, 4)), nil, err(api.ErrMoneyGreat)},
		{"by somebody else", op(2), sold, keys(auction), nil, err(api.ErrRuleOwn)},
		{"no auction", op(1), nil, keys(auction), nil, err(api.ErrRuleNone)},
	})
}

// Errors that are found ahead of all look-ups.
func TestArguments(t *testing.T) {
	for kind := range 256 {
		bad := kind < 1 || kind > 18
		op := api.Op{Kind: uint8(kind), Whom: 2, What: 1, ID: 5, N: 1, Price: 1}
		if _, reply := rule.Do(op, nil); reply != err(api.ErrArg) {
			t.Errorf("kind %d without Who: %v", kind, reply)
		}
		if _, ok := rule.Next(op, nil); ok {
			t.Errorf("kind %d without Who looks up", kind)
		}
		op.Who = 1
		if _, ok := rule.Next(op, nil); ok == bad {
			t.Errorf("kind %d: %v", kind, ok)
		}
		if _, reply := rule.Do(op, []api.Cell{{}, {}, {}, {}}); bad && reply != err(api.ErrArg) {
			t.Errorf("kind %d: %v", kind, reply)
		}
	}
	for i, c := range []struct {
		op   api.Op
		want api.Errno
	}{
		{api.Op{Kind: api.OpMint, Who: 1}, api.ErrArg},
		{api.Op{Kind: api.OpSink, Who: 1}, api.ErrArg},
		{api.Op{Kind: api.OpDeposit, Who: 1}, api.ErrArg},
		{api.Op{Kind: api.OpDraw, Who: 1}, api.ErrArg},
		{api.Op{Kind: api.OpMake, Who: 1, What: 1}, api.ErrArg},
		{api.Op{Kind: api.OpMake, Who: 1, N: 1}, api.ErrArg},
		{api.Op{Kind: api.OpMake, Who: 1, N: 1, What: 1001}, api.ErrArg},
		{api.Op{Kind: api.OpUse, Who: 1, N: 1, What: 1<<32 - 1}, api.ErrArg},
		{api.Op{Kind: api.OpUse, Who: 1, What: 5}, api.ErrArg},
		{api.Op{Kind: api.OpPay, Who: 1, Whom: 2}, api.ErrArg},
		{api.Op{Kind: api.OpPay, Who: 1, N: 1}, api.ErrArg},
		{api.Op{Kind: api.OpPay, Who: 1, Whom: 1}, api.ErrArg},
		{api.Op{Kind: api.OpPay, Who: 1, Whom: 1, N: 1}, api.ErrRuleSame},
		{api.Op{Kind: api.OpGive, Who: 1, Whom: 2, What: 1}, api.ErrArg},
		{api.Op{Kind: api.OpGive, Who: 1, What: 1, N: 1}, api.ErrArg},
		{api.Op{Kind: api.OpGive, Who: 1, Whom: 1, N: 1}, api.ErrArg},
		{api.Op{Kind: api.OpGive, Who: 1, Whom: 1, N: 1, What: 1001}, api.ErrArg},
		{api.Op{Kind: api.OpGive, Who: 1, Whom: 1, N: 1, What: 1000}, api.ErrRuleSame},
		{api.Op{Kind: api.OpTrade, Who: 1}, api.ErrArg},
		{api.Op{Kind: api.OpTrade, Who: 1, Whom: 1}, api.ErrRuleSame},
		{api.Op{Kind: api.OpOffer, Who: 1, What: 1001, N: 1}, api.ErrArg},
		{api.Op{Kind: api.OpLook, Who: 1, What: 1001}, api.ErrArg},
		{api.Op{Kind: api.OpSell, Who: 1, What: 1}, api.ErrArg},
		{api.Op{Kind: api.OpSell, Who: 1, N: 1}, api.ErrArg},
		{api.Op{Kind: api.OpSell, Who: 1, N: 1, What: 1001}, api.ErrArg},
		{api.Op{Kind: api.OpSell, Who: 1, N: 1, What: 1, Price: most + 1}, api.ErrArg},
		{api.Op{Kind: api.OpBid, Who: 1}, api.ErrArg},
		{api.Op{Kind: api.OpBid, Who: 1, N: most + 1}, api.ErrArg},
		{api.Op{Kind: api.OpCraft, What: 99}, api.ErrArg},
	} {
		puts, reply := rule.Do(c.op, nil)
		if _, ok := rule.Next(c.op, nil); ok || len(puts) != 0 || reply != err(c.want) {
			t.Errorf("case %d: %v, %v", i, puts, reply)
		}
	}
	for _, op := range []api.Op{
		{Kind: api.OpOffer, Who: 1, What: 1000}, {Kind: api.OpLook, Who: 1, What: 1000}, {Kind: api.OpSell, Who: 1, N: 1, What: 1000, Price: most},
		{Kind: api.OpBid, Who: 1, N: most}, {Kind: api.OpCraft, Who: 1, What: 6, N: 1000}, {Kind: api.OpClose, Who: 1}, {Kind: api.OpOpen, Who: 1<<32 - 1},
	} {
		if _, ok := rule.Next(op, nil); !ok {
			t.Errorf("%v may be", op)
		}
	}
}

// Whatever is seen, an operation ends, and puts nothing beside an error.
func TestAnythingSeen(t *testing.T) {
	seed := uint64(1)
	next := func(n uint64) uint64 {
		seed = seed*6364136223846793005 + 1442695040888963407
		return seed >> 20 % n
	}
	for range 50000 {
		op := api.Op{Kind: uint8(next(20)), Who: uint32(next(4)), Whom: uint32(next(4)), What: uint32(next(8)), ID: uint32(next(3)), N: next(5), Price: next(9)}
		var seen []api.Cell
		for range next(9) {
			seen = append(seen, api.Cell{Value: api.Value{A: next(1<<40) >> next(40), B: next(5)}, Is: next(3) > 0})
		}
		was := fmt.Sprint(seen)
		_, waits := rule.Next(op, seen)
		puts, reply := rule.Do(op, seen)
		if len(puts) > 0 && reply.Err != 0 || reply.Err != 0 && reply != err(reply.Err) || waits && reply.Err != api.ErrArg || fmt.Sprint(seen) != was {
			t.Fatalf("%v: %v, %v", op, puts, reply)
		}
	}
}
