// Package clearing works out who trades when a batch is cleared, and at what prices.
package clearing

import (
	"cmp"
	"math"

	"sealbid/api"
)

// Clear tells what clearing these orders, in the order in which they came, comes to.
func Clear(l []api.Bid) api.Outcome {
	buyers := lineUp(l, api.Buy, 0, func(a, b int) int { return cmp.Compare(b, a) })
	sellers := lineUp(l, api.Sell, api.MaxPrice, func(a, b int) int { return cmp.Compare(a, b) })
	k := countPairs(buyers, sellers)
	fills, pay, get := settle(buyers, sellers, k)
	filled := make([]bool, len(l))
	buyers.mark(filled, fills)
	sellers.mark(filled, fills)
	share := shareOf(gain(buyers, sellers, fills), gain(buyers, sellers, k))
	return api.Outcome{Pairs: k, Fills: fills, Pay: pay, Get: get, Filled: filled, Share: math.Float64bits(share)}
}

// countPairs needs no look at the lengths: a buyer who is not there offers less than any
// seller asks, a seller who is not there asks more than any buyer offers.
func countPairs(buyers, sellers line) int {
	k := 0
	for buyers.price(k) >= sellers.price(k) {
		k++
	}
	return k
}

// settle tells how many of k pairs trade, what their buyers pay and what their sellers get.
// No price hangs on an order that trades at it: so nobody can turn it to their good.
func settle(buyers, sellers line, k int) (fills, pay, get int) {
	if k == 0 {
		return 0, 0, 0
	}
	bid, ask := buyers.price(k-1), sellers.price(k-1)
	middle := (buyers.price(k) + sellers.price(k)) / 2
	if ask <= middle && middle <= bid {
		return k, middle, middle
	}
	if k == 1 {
		return 0, 0, 0
	}
	return k - 1, bid, ask
}

// gain is what the first n pairs gain together.
func gain(buyers, sellers line, n int) int {
	sum := 0
	for i := range n {
		sum += buyers.price(i) - sellers.price(i)
	}
	return sum
}

// shareOf divides sums that a float64 holds exactly, so that its quotient is the nearest one.
func shareOf(gained, possible int) float64 {
	if possible == 0 {
		return 1
	}
	return float64(gained) / float64(possible)
}
