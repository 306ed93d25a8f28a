package clearing

import (
	"slices"

	"sealbid/api"
)

// order is a price, and the place among all orders at which it came.
type order struct {
	place, price int
}

// line is the orders of one side, the best first.
type line struct {
	orders []order
	none   int // the price of one who is not there
}

// lineUp puts the orders of a side in line; better compares two prices, and is below 0 if the first is the better one.
// The sort is stable: of those with the same price the first to come stands ahead.
func lineUp(l []api.Bid, side, none int, better func(a, b int) int) line {
	var orders []order
	for i, b := range l {
		if b.Side == side && allowed(b.Price) {
			orders = append(orders, order{place: i, price: b.Price})
		}
	}
	slices.SortStableFunc(orders, func(x, y order) int { return better(x.price, y.price) })
	return line{orders: orders, none: none}
}

func allowed(price int) bool {
	return price >= 1 && price < api.MaxPrice
}

// price is that of the i-th in line, counted from 0.
func (s line) price(i int) int {
	if i < len(s.orders) {
		return s.orders[i].price
	}
	return s.none
}

// mark sets the places of the first n in line.
func (s line) mark(filled []bool, n int) {
	for _, o := range s.orders[:n] {
		filled[o.place] = true
	}
}
