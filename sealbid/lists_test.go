package sealbid_test

import (
	"iter"

	"sealbid/api"
)

// shortLists: every list of at most so many orders, of both sides, with these prices.
func shortLists(most int, prices ...int) iter.Seq[[]api.Bid] {
	return func(yield func([]api.Bid) bool) {
		var grow func(l []api.Bid) bool
		grow = func(l []api.Bid) bool {
			if !yield(l) {
				return false
			}
			if len(l) == most {
				return true
			}
			for _, side := range []int{api.Buy, api.Sell} {
				for _, p := range prices {
					if !grow(append(l, api.Bid{Side: side, Price: p})) {
						return false
					}
				}
			}
			return true
		}
		grow(make([]api.Bid, 0, most))
	}
}

// mixedLists: so many lists, the same at each run, of at most so many orders. Some have prices far apart, some near by, so that there are ties.
func mixedLists(count, most int) iter.Seq[[]api.Bid] {
	state := uint64(1)
	below := func(n int) int {
		state = state*6364136223846793005 + 1442695040888963407
		return int(state>>33) % n
	}
	return func(yield func([]api.Bid) bool) {
		for range count {
			spread := []int{3, 10, 100, api.MaxPrice - 1}[below(4)]
			first := 1 + below(api.MaxPrice-spread)
			l := make([]api.Bid, below(most+1))
			for i := range l {
				l[i] = api.Bid{Side: below(2), Price: first + below(spread)}
			}
			if !yield(l) {
				return
			}
		}
	}
}
