package rule

import (
	"math"

	"manciple/api"
)

// both have agreed to a trade; each side's own number is one more than the side.
const both = 3

// number is the next number of a kind of things, and the count behind it.
func (w *work) number(kind uint8) (uint32, thing) {
	c := w.look(Count(kind))
	deny(c.A >= math.MaxUint32, api.ErrLimit)
	c.A++
	return uint32(c.A), c
}

func (w *work) trade() api.Reply {
	w.there(Purse(w.Who))
	w.there(Purse(w.Whom))
	id, count := w.number(api.KindTrade)
	w.amount(count.key, count.A)
	w.put(Trade(id), api.Value{A: pair(w.Who, w.Whom)})
	return api.Reply{A: uint64(id)}
}

// side is which one of a trade Who is.
func (w *work) side(trade thing) uint32 {
	first, second := unpair(trade.A)
	switch w.Who {
	case first:
		return 0
	case second:
		return 1
	}
	panic(api.ErrRuleOwn)
}

func (w *work) offer() api.Reply {
	trade := w.there(Trade(w.ID))
	side := w.side(trade)
	was := w.look(Offer(w.ID, side))
	piles := []thing{w.look(Purse(w.Who))}
	// where what was offered comes back to, and where what is offered goes from
	back, from := 0, 0
	if was.is && was.B != 0 {
		back = len(piles)
		piles = append(piles, w.look(holding(w.Who, was.B)))
	}
	switch {
	case w.N == 0 || w.What == 0:
	case back != 0 && uint64(w.What) == was.B:
		from = back
	default:
		from = len(piles)
		piles = append(piles, w.look(Stack(w.Who, w.What)))
	}
	if was.is {
		piles[back].A = more(piles[back].A, was.A)
	}
	if w.N != 0 {
		piles[from].A = less(piles[from].A, w.N)
	}
	for _, p := range piles {
		w.amount(p.key, p.A)
	}
	if w.N == 0 {
		w.gone(was.key)
	} else {
		w.put(was.key, api.Value{A: w.N, B: uint64(w.What)})
	}
	w.put(trade.key, api.Value{A: trade.A})
	return api.Reply{A: w.N}
}

func (w *work) agree() api.Reply {
	trade := w.there(Trade(w.ID))
	side := uint64(w.side(trade))
	own, other := 1+side, 2-side
	if trade.B != other && trade.B != both {
		w.put(trade.key, api.Value{A: trade.A, B: own})
		return api.Reply{}
	}
	first, second := unpair(trade.A)
	return w.settle([2]uint32{second, first})
}

// breakUp is OpBreak.
func (w *work) breakUp() api.Reply {
	trade := w.there(Trade(w.ID))
	w.side(trade)
	first, second := unpair(trade.A)
	return w.settle([2]uint32{first, second})
}

// settle ends a trade: what each side offered goes to somebody.
func (w *work) settle(to [2]uint32) api.Reply {
	first := w.look(Offer(w.ID, 0))
	second := w.look(Offer(w.ID, 1))
	offers := [2]thing{first, second}
	for side, o := range offers {
		if o.is {
			pile := w.look(holding(to[side], o.B))
			w.amount(pile.key, more(pile.A, o.A))
		}
	}
	for _, o := range offers {
		if o.is {
			w.gone(o.key)
		}
	}
	w.gone(Trade(w.ID))
	return api.Reply{A: 1}
}

func (w *work) sell() api.Reply {
	w.there(Purse(w.Who))
	stack := w.look(Stack(w.Who, w.What))
	left := less(stack.A, w.N)
	id, count := w.number(api.KindAuction)
	w.amount(stack.key, left)
	w.amount(count.key, count.A)
	w.put(Auction(id), api.Value{A: pair(w.Who, w.What), B: w.N})
	w.amount(Price(id), w.Price)
	return api.Reply{A: uint64(id)}
}

func (w *work) bid() api.Reply {
	auction := w.there(Auction(w.ID))
	seller, _ := unpair(auction.A)
	deny(seller == w.Who, api.ErrRuleOwn)
	price := w.look(Price(w.ID))
	was := w.look(Bid(w.ID))
	deny(w.N < price.A || was.is && was.A >= w.N, api.ErrRuleState)
	purses := []thing{w.there(Purse(w.Who))}
	if was.is {
		last := len(purses) - 1
		if uint32(was.B) != w.Who {
			last = len(purses)
			purses = append(purses, w.look(Purse(uint32(was.B))))
		}
		purses[last].A = more(purses[last].A, was.A)
	}
	purses[0].A = less(purses[0].A, w.N)
	for _, p := range purses {
		w.amount(p.key, p.A)
	}
	w.put(was.key, api.Value{A: w.N, B: uint64(w.Who)})
	return api.Reply{A: w.N}
}

// closeUp is OpClose.
func (w *work) closeUp() api.Reply {
	auction := w.there(Auction(w.ID))
	seller, item := unpair(auction.A)
	deny(seller != w.Who, api.ErrRuleOwn)
	bid := w.look(Bid(w.ID))
	winner := w.Who
	if bid.is {
		purse := w.look(Purse(w.Who))
		w.amount(purse.key, more(purse.A, bid.A))
		winner = uint32(bid.B)
	}
	stack := w.look(Stack(winner, item))
	w.amount(stack.key, more(stack.A, auction.B))
	w.gone(auction.key)
	w.gone(Price(w.ID))
	if bid.is {
		w.gone(bid.key)
	}
	return api.Reply{A: bid.A}
}
