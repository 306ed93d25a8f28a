package sealbid_test

import (
	"math"
	"slices"
	"testing"

	"sealbid/api"
	"sealbid/sealbid"
)

func TestP1ClearAtAllNumbers(t *testing.T) {
	odd := []int{math.MinInt, math.MinInt + 1, -1000, -1, 0, 1, 2, 499, 500, 999, 1000, 1001, math.MaxInt - 1, math.MaxInt}
	var all []api.Bid
	for _, side := range odd {
		for _, price := range odd {
			one := api.Bid{Side: side, Price: price}
			all = append(all, one)
			if x := sealbid.Clear([]api.Bid{one}); !same(x, outcome(1, 0, 0, 0, 0, 1)) {
				t.Errorf("P1: Clear of %v alone = %v", one, x)
			}
		}
	}
	if x := sealbid.Clear(all); len(x.Filled) != len(all) {
		t.Errorf("P1: Clear of %d orders tells of %d", len(all), len(x.Filled))
	}
}

// TestP1ClearLong: a list far above MaxBatch is cleared too, and in a moment.
func TestP1ClearLong(t *testing.T) {
	const n = 300_000
	l := make([]api.Bid, 2*n)
	for i := range n {
		l[2*i] = api.Bid{Side: api.Buy, Price: 900 - i%100}
		l[2*i+1] = api.Bid{Side: api.Sell, Price: 100 + i%100}
	}
	x := sealbid.Clear(l)
	if x.Pairs != n || x.Fills != n || x.Pay != 500 || x.Get != 500 || x.Share != math.Float64bits(1) || slices.Contains(x.Filled, false) {
		t.Errorf("P1: Clear of %d orders: %d pairs, %d trade at %d and %d", len(l), x.Pairs, x.Fills, x.Pay, x.Get)
	}
}

func TestP2ClearChangesNothing(t *testing.T) {
	for l := range mixedLists(300, 20) {
		whole := append(slices.Clone(l), bids(1, -999, 500, -500)...)
		whole = append(whole, api.Bid{Side: 7, Price: -7})
		before := slices.Clone(whole)
		sealbid.Clear(whole[:len(l)])
		if !slices.Equal(whole, before) {
			t.Fatalf("P2: Clear changed %v to %v", before, whole)
		}
	}
}

func TestP2ClearAnswersNewMemory(t *testing.T) {
	l := bids(9, 5, -3, -6)
	first := sealbid.Clear(l)
	second := sealbid.Clear(l)
	want := slices.Clone(second.Filled[:cap(second.Filled)])
	room := first.Filled[:cap(first.Filled)]
	for i := range room {
		room[i] = !room[i]
	}
	if !slices.Equal(second.Filled[:cap(second.Filled)], want) {
		t.Error("P2: two answers share memory")
	}
	if x := sealbid.Clear(l); !same(x, outcome(4, 1, 1, 5, 5, 1, 0, 2)) {
		t.Errorf("P2: a later answer hangs on an earlier one: %v", x)
	}
}

// bestPairing: the most that any pairing of buyers and sellers gains; each pair of one buyer and one seller, and nobody in two.
func bestPairing(buyers, sellers []int) int {
	if len(buyers) == 0 {
		return 0
	}
	best := bestPairing(buyers[1:], sellers)
	for i, s := range sellers {
		rest := slices.Delete(slices.Clone(sellers), i, i+1)
		best = max(best, buyers[0]-s+bestPairing(buyers[1:], rest))
	}
	return best
}

func prices(l []api.Bid, side int) []int {
	var out []int
	for _, b := range l {
		if b.Side == side {
			out = append(out, b.Price)
		}
	}
	return out
}

// checkP8 looks at one clearing, and tells how much was gained.
func checkP8(t *testing.T, l []api.Bid, x api.Outcome) int {
	t.Helper()
	traded := [2]int{}
	gained := 0
	for i, b := range l {
		switch {
		case !x.Filled[i]:
			continue
		case b.Side == api.Buy && x.Pay > b.Price:
			t.Fatalf("P8: of %v a buyer of %d pays %d", l, b.Price, x.Pay)
		case b.Side == api.Sell && x.Get < b.Price:
			t.Fatalf("P8: of %v a seller of %d gets %d", l, b.Price, x.Get)
		case b.Side == api.Buy:
			gained += b.Price
		default:
			gained -= b.Price
		}
		traded[b.Side]++
	}
	if traded[api.Buy] != x.Fills || traded[api.Sell] != x.Fills {
		t.Fatalf("P8: of %v %d buyers and %d sellers trade, Fills %d", l, traded[api.Buy], traded[api.Sell], x.Fills)
	}
	if x.Pay < x.Get || x.Get < 0 {
		t.Fatalf("P8: of %v buyers pay %d, sellers get %d", l, x.Pay, x.Get)
	}
	if x.Fills == 0 && x.Pay != 0 {
		t.Fatalf("P8: of %v nobody trades, but at %d", l, x.Pay)
	}
	if x.Fills < x.Pairs-1 || x.Fills > x.Pairs {
		t.Fatalf("P8: of %v %d trade of %d pairs", l, x.Fills, x.Pairs)
	}
	return gained
}

func TestP8NothingMuchIsLost(t *testing.T) {
	check := func(l []api.Bid) {
		x := sealbid.Clear(l)
		gained := checkP8(t, l, x)
		best := bestPairing(prices(l, api.Buy), prices(l, api.Sell))
		if x.Pairs*gained < (x.Pairs-1)*best || x.Pairs == 0 && best > 0 {
			t.Fatalf("P8: of %v %d is gained of %d, with %d pairs", l, gained, best, x.Pairs)
		}
		if share := math.Float64frombits(x.Share); best > 0 && share != float64(gained)/float64(best) {
			t.Fatalf("P8: of %v the share is %v, of %d by %d", l, share, gained, best)
		}
	}
	for l := range shortLists(4, 1, 2, 499, 500, 501, 999) {
		check(l)
	}
	for l := range mixedLists(2000, 9) {
		check(l)
	}
}

func TestP8LongLists(t *testing.T) {
	for l := range mixedLists(2000, 60) {
		checkP8(t, l, sealbid.Clear(l))
	}
}

// gainOf: what the i-th gains, to whom a unit is worth that much.
func gainOf(x api.Outcome, side, i, worth int) int {
	switch {
	case !x.Filled[i]:
		return 0
	case side == api.Buy:
		return worth - x.Pay
	}
	return x.Get - worth
}

// checkP9 puts other prices in each order's place.
func checkP9(t *testing.T, l []api.Bid, others []int) {
	t.Helper()
	told := sealbid.Clear(l)
	for i, b := range l {
		truth := gainOf(told, b.Side, i, b.Price)
		if truth < 0 {
			t.Fatalf("P9: of %v the one at %d loses %d", l, i, -truth)
		}
		m := slices.Clone(l)
		for _, p := range others {
			m[i].Price = p
			if lie := gainOf(sealbid.Clear(m), b.Side, i, b.Price); lie > truth {
				t.Fatalf("P9: of %v the one at %d gains %d, but %d with %d", l, i, truth, lie, p)
			}
		}
	}
}

func TestP9ShortLists(t *testing.T) {
	others := []int{-1, 0, 1, 2, 3, 249, 250, 251, 498, 499, 500, 501, 502, 749, 750, 751, 998, 999, 1000, 1001}
	for l := range shortLists(4, 1, 2, 499, 500, 999) {
		checkP9(t, l, others)
	}
}

func TestP9AllPrices(t *testing.T) {
	var others []int
	for p := -1; p <= api.MaxPrice+1; p++ {
		others = append(others, p)
	}
	for l := range mixedLists(150, 12) {
		checkP9(t, l, others)
	}
}
