package sealbid_test

import (
	"math"
	"math/big"
	"slices"
	"testing"

	"sealbid/api"
	"sealbid/sealbid"
)

// bids: buyers' prices above 0, sellers' below.
func bids(prices ...int) []api.Bid {
	var l []api.Bid
	for _, p := range prices {
		if p > 0 {
			l = append(l, api.Bid{Side: api.Buy, Price: p})
		} else {
			l = append(l, api.Bid{Side: api.Sell, Price: -p})
		}
	}
	return l
}

// outcome: filled are the places of those who trade, of n orders.
func outcome(n, pairs, fills, pay, get int, share float64, filled ...int) api.Outcome {
	x := api.Outcome{Pairs: pairs, Fills: fills, Pay: pay, Get: get, Filled: make([]bool, n), Share: math.Float64bits(share)}
	for _, i := range filled {
		x.Filled[i] = true
	}
	return x
}

func same(x, y api.Outcome) bool {
	return x.Pairs == y.Pairs && x.Fills == y.Fills && x.Pay == y.Pay && x.Get == y.Get && x.Share == y.Share && slices.Equal(x.Filled, y.Filled)
}

func TestP3Table(t *testing.T) {
	for _, c := range []struct {
		name string
		l    []api.Bid
		want api.Outcome
	}{
		{"nil", nil, outcome(0, 0, 0, 0, 0, 1)},
		{"no orders", []api.Bid{}, outcome(0, 0, 0, 0, 0, 1)},
		{"buyers alone", bids(5, 999), outcome(2, 0, 0, 0, 0, 1)},
		{"sellers alone", bids(-5, -1), outcome(2, 0, 0, 0, 0, 1)},
		{"no pairs", bids(4, -5), outcome(2, 0, 0, 0, 0, 1)},
		{"no pairs of many", bids(4, 3, -5, -6, 2), outcome(5, 0, 0, 0, 0, 1)},
		{"the first example", bids(9, 5, -3, -6), outcome(4, 1, 1, 5, 5, 1, 0, 2)},
		{"the second example", bids(9, 8, -3, -7), outcome(4, 2, 1, 8, 7, 6.0/7, 0, 2)},
		{"one pair, no second ones", bids(600, -400), outcome(2, 1, 1, 500, 500, 1, 0, 1)},
		{"one pair, nobody trades", bids(9, -3), outcome(2, 1, 0, 0, 0, 0)},
		{"no second buyer", bids(9, -3, -10), outcome(3, 1, 1, 5, 5, 1, 0, 1)},
		{"no second seller", bids(300, 990, -600), outcome(3, 1, 1, 650, 650, 1, 1, 2)},
		{"no third buyer", bids(9, 8, -1, -2, -12), outcome(5, 2, 2, 6, 6, 1, 0, 1, 2, 3)},
		{"no third seller", bids(9, 950, 940, -1, -2), outcome(5, 2, 2, 504, 504, 1, 1, 2, 3, 4)},
		{"the middle is the seller's price", bids(9, -5, -10), outcome(3, 1, 1, 5, 5, 1, 0, 1)},
		{"the middle is rounded down to the seller's price", bids(9, -5, -11), outcome(3, 1, 1, 5, 5, 1, 0, 1)},
		{"the middle is rounded down below the seller's price", bids(9, -6, -11), outcome(3, 1, 0, 0, 0, 0)},
		{"the middle is below the second seller's price", bids(20, 9, -2, -6, -10), outcome(5, 2, 1, 9, 6, 18.0/21, 0, 2)},
		{"the middle is the buyer's price", bids(500, -400), outcome(2, 1, 1, 500, 500, 1, 0, 1)},
		{"the middle is rounded down to the buyer's price", bids(500, 1, -400), outcome(3, 1, 1, 500, 500, 1, 0, 2)},
		{"the middle is above the buyer's price", bids(499, -400), outcome(2, 1, 0, 0, 0, 0)},
		{"the middle is above the second buyer's price", bids(499, 600, -400, -300), outcome(4, 2, 1, 499, 400, 300.0/399, 1, 3)},
		{"nothing to be gained, nobody trades", bids(5, -5), outcome(2, 1, 0, 0, 0, 1)},
		{"nothing to be gained, one pair trades", bids(5, 5, -5, -5), outcome(4, 2, 1, 5, 5, 1, 0, 2)},
		{"nothing to be gained, all trade", bids(500, -500, 500, -500), outcome(4, 2, 2, 500, 500, 1, 0, 1, 2, 3)},
		{"buyers with the same price", bids(7, 7, 7, -2, -2), outcome(5, 2, 1, 7, 2, 0.5, 0, 3)},
		{"sellers with the same price", bids(-2, -2, -2, 7, 7), outcome(5, 2, 1, 7, 2, 0.5, 0, 3)},
		{"ties, behind better ones", bids(5, 8, 5, -4, 8, -2, -4, -2, 6, -9), outcome(10, 4, 3, 5, 4, 14.0/15, 1, 3, 4, 5, 7, 8)},
		{"the farthest prices", bids(999, -1), outcome(2, 1, 1, 500, 500, 1, 0, 1)},
	} {
		if x := sealbid.Clear(c.l); !same(x, c.want) {
			t.Errorf("P3: %s: Clear(%v) = %v, want %v", c.name, c.l, x, c.want)
		}
	}
}

func TestP3ShareBits(t *testing.T) {
	if x := sealbid.Clear(bids(9, 8, -3, -7)); x.Share != 0x3feb6db6db6db6db {
		t.Errorf("P3: the share's bits are %x", x.Share)
	}
}

func TestP3PassedOver(t *testing.T) {
	const low, high = math.MinInt, math.MaxInt
	wrong := []api.Bid{
		{Side: 2, Price: 999}, {Side: -1, Price: 1}, {Side: low, Price: 500}, {Side: high, Price: 500}, {Side: 256, Price: 999}, {Side: 257, Price: 1},
		{Side: api.Buy, Price: 1000}, {Side: api.Buy, Price: 0}, {Side: api.Buy, Price: -1}, {Side: api.Buy, Price: high}, {Side: api.Buy, Price: low},
		{Side: api.Sell, Price: 0}, {Side: api.Sell, Price: 1000}, {Side: api.Sell, Price: -1}, {Side: api.Sell, Price: high}, {Side: api.Sell, Price: low},
	}
	if x := sealbid.Clear(wrong); !same(x, outcome(len(wrong), 0, 0, 0, 0, 1)) {
		t.Errorf("P3: Clear of wrong orders alone = %v", x)
	}
	right := bids(9, 8, -3, -7, 8, -8, 600, 1, -999)
	alone := sealbid.Clear(right)
	for _, w := range wrong {
		for i := range len(right) + 1 {
			want := alone
			want.Filled = slices.Insert(slices.Clone(alone.Filled), i, false)
			if x := sealbid.Clear(slices.Insert(slices.Clone(right), i, w)); !same(x, want) {
				t.Errorf("P3: with %v at %d: %v, want %v", w, i, x, want)
			}
		}
	}
}

// TestP3PriceEdges: the outermost prices that may be do trade.
func TestP3PriceEdges(t *testing.T) {
	if x := sealbid.Clear(bids(-999, 999, 999, -998)); !same(x, outcome(4, 2, 1, 999, 999, 1, 1, 3)) {
		t.Errorf("P3: the highest prices: %v", x)
	}
	if x := sealbid.Clear(bids(1, -1, 1, -1, -3)); !same(x, outcome(5, 2, 2, 1, 1, 1, 0, 1, 2, 3)) {
		t.Errorf("P3: the lowest prices: %v", x)
	}
}

// ahead counts those of the order's side that stand ahead of it in line.
func ahead(l []api.Bid, i int) int {
	n := 0
	for j, b := range l {
		better := b.Price > l[i].Price
		if b.Side == api.Sell {
			better = b.Price < l[i].Price
		}
		if b.Side == l[i].Side && (better || b.Price == l[i].Price && j < i) {
			n++
		}
	}
	return n
}

// plainClear does what the document's words say, one after the other; all orders are such as may be.
func plainClear(l []api.Bid) api.Outcome {
	nth := map[[2]int]int{} // the price by side and place in line, from 1
	for i, b := range l {
		nth[[2]int{b.Side, ahead(l, i) + 1}] = b.Price
	}
	buyer := func(n int) int { return nth[[2]int{api.Buy, n}] }
	seller := func(n int) int {
		if p := nth[[2]int{api.Sell, n}]; p != 0 {
			return p
		}
		return api.MaxPrice
	}
	x := api.Outcome{Filled: make([]bool, len(l))}
	for n := 1; n <= len(l); n++ {
		if buyer(n) >= seller(n) {
			x.Pairs = n
		}
	}
	k := x.Pairs
	if middle := (buyer(k+1) + seller(k+1)) / 2; k > 0 && middle >= seller(k) && middle <= buyer(k) {
		x.Fills, x.Pay, x.Get = k, middle, middle
	} else if k > 1 {
		x.Fills, x.Pay, x.Get = k-1, buyer(k), seller(k)
	}
	can, is := int64(0), int64(0)
	for n := 1; n <= k; n++ {
		can += int64(buyer(n) - seller(n))
		if n <= x.Fills {
			is += int64(buyer(n) - seller(n))
		}
	}
	for i := range l {
		x.Filled[i] = ahead(l, i) < x.Fills
	}
	share := 1.0
	if can > 0 {
		share, _ = new(big.Rat).SetFrac64(is, can).Float64()
	}
	x.Share = math.Float64bits(share)
	return x
}

func TestP3AsTheWordsSay(t *testing.T) {
	check := func(l []api.Bid) {
		if x, want := sealbid.Clear(l), plainClear(l); !same(x, want) {
			t.Fatalf("P3: Clear(%v) = %v, want %v", l, x, want)
		}
	}
	for l := range shortLists(4, 1, 2, 499, 500, 501, 999) {
		check(l)
	}
	for l := range mixedLists(3000, 40) {
		check(l)
	}
}
