package rule

import "manciple/api"

// Purse is an account's coins at hand.
func Purse(who uint32) api.Key { return api.Key{Kind: api.KindPurse, Who: who} }

// Bank is an account's coins in the bank.
func Bank(who uint32) api.Key { return api.Key{Kind: api.KindBank, Who: who} }

// Stack is so many of an item, of an account.
func Stack(who, item uint32) api.Key {
	return api.Key{Kind: api.KindStack, Who: who, What: item}
}

// Trade is two accounts that trade.
func Trade(id uint32) api.Key { return api.Key{Kind: api.KindTrade, Who: id} }

// Offer is what one side of a trade offers.
func Offer(id uint32, side uint32) api.Key {
	return api.Key{Kind: api.KindOffer, Who: id, What: side}
}

// Auction is what is up.
func Auction(id uint32) api.Key { return api.Key{Kind: api.KindAuction, Who: id} }

// Bid is the best bid of an auction.
func Bid(id uint32) api.Key { return api.Key{Kind: api.KindBid, Who: id} }

// Price is the least bid of an auction.
func Price(id uint32) api.Key { return api.Key{Kind: api.KindBid, Who: id, What: 1} }

// Count is the last number that was given to a thing of a kind.
func Count(kind uint8) api.Key { return api.Key{Kind: api.KindCount, Who: uint32(kind)} }

// holding is where an account has what was offered: coins in its purse, items in a stack.
func holding(who uint32, item uint64) api.Key {
	if item == 0 {
		return Purse(who)
	}
	return Stack(who, uint32(item))
}

// pair is two numbers in one.
func pair(high, low uint32) uint64 { return uint64(high)<<32 | uint64(low) }

func unpair(n uint64) (high, low uint32) { return uint32(n >> 32), uint32(n) }
