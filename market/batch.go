package market

import (
	"slices"

	"sealbid/accounts"
	"sealbid/api"
)

// order is a trader's bid.
type order struct {
	trader int
	bid    api.Bid
}

// stake is what is held for an order: all that it can cost its trader.
func (o order) stake() (accounts.Good, int) {
	if o.bid.Side == api.Buy {
		return accounts.Cash, o.bid.Price
	}
	return accounts.Units, 1
}

// batch is the orders that will be cleared together, in the order in which they came.
type batch struct {
	number, end int
	orders      []order
}

// place is where the trader's order stands; below 0, if there is none.
func (b batch) place(trader int) int {
	return slices.IndexFunc(b.orders, func(o order) bool { return o.trader == trader })
}

func (b batch) bids() []api.Bid {
	var l []api.Bid
	for _, o := range b.orders {
		l = append(l, o.bid)
	}
	return l
}
