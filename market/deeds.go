package market

import (
	"slices"

	"sealbid/accounts"
	"sealbid/api"
	"sealbid/numbers"
	"sealbid/request"
)

// deed is what a request of a kind does: it answers the code and, if that is Done, what is told. If it is not Done, it has changed nothing.
type deed func(r request.Request) (code byte, told []byte)

func deeds(m *Market) map[int]deed {
	return map[int]deed{
		api.PutCash:   put(m, accounts.Cash),
		api.TakeCash:  take(m, accounts.Cash),
		api.PutUnits:  put(m, accounts.Units),
		api.TakeUnits: take(m, accounts.Units),
		api.Order:     give(m),
		api.Cancel:    cancel(m),
		api.Account:   tellAccount(m),
		api.Batch:     tellBatch(m),
		api.Result:    tellResult(m),
		api.Clearing:  tellClearing(m),
	}
}

func put(m *Market, g accounts.Good) deed {
	return func(r request.Request) (byte, []byte) {
		// The room that is left is never below 0; the amount, added to a sum, might wrap round.
		room := uint64(api.MaxSum - m.accounts.Total(g))
		switch {
		case r.Amount == 0:
			return api.Amount, nil
		case r.Amount > room:
			return api.Sum, nil
		}
		m.accounts.Put(r.Trader, g, int(r.Amount))
		return api.Done, nil
	}
}

func take(m *Market, g accounts.Good) deed {
	return func(r request.Request) (byte, []byte) {
		switch {
		case r.Amount == 0:
			return api.Amount, nil
		case r.Amount > uint64(m.accounts[r.Trader][g].Free):
			return api.Short, nil
		}
		m.accounts.Take(r.Trader, g, int(r.Amount))
		return api.Done, nil
	}
}

// give puts an order into the batch.
func give(m *Market) deed {
	return func(r request.Request) (byte, []byte) {
		o := order{trader: r.Trader, bid: api.Bid{Side: r.Side, Price: r.Price}}
		good, n := o.stake()
		switch {
		case r.Side != api.Buy && r.Side != api.Sell:
			return api.Side, nil
		case r.Price < 1 || r.Price >= api.MaxPrice:
			return api.Price, nil
		case m.batch.place(r.Trader) >= 0:
			return api.Live, nil
		case len(m.batch.orders) >= m.config.Batch:
			return api.Full, nil
		case m.accounts[r.Trader][good].Free < n:
			return api.Short, nil
		}
		m.accounts.Hold(r.Trader, good, n)
		m.batch.orders = append(m.batch.orders, o)
		return api.Done, tell(nil, 1, len(m.batch.orders))
	}
}

func cancel(m *Market) deed {
	return func(r request.Request) (byte, []byte) {
		i := m.batch.place(r.Trader)
		if i < 0 {
			return api.Nothing, nil
		}
		good, n := m.batch.orders[i].stake()
		m.accounts.Release(r.Trader, good, n)
		m.batch.orders = slices.Delete(m.batch.orders, i, i+1)
		return api.Done, nil
	}
}

func tellAccount(m *Market) deed {
	return func(r request.Request) (byte, []byte) {
		a := m.accounts[r.Trader]
		cash, units := a[accounts.Cash], a[accounts.Units]
		return api.Done, tell(nil, 8, cash.Free, cash.Held, units.Free, units.Held)
	}
}

func tellBatch(m *Market) deed {
	return func(request.Request) (byte, []byte) {
		b := tell(nil, 4, m.batch.number)
		b = tell(b, 8, m.batch.end)
		return api.Done, tell(b, 1, len(m.batch.orders))
	}
}

func tellResult(m *Market) deed {
	return func(r request.Request) (byte, []byte) {
		price, traded := m.last.prices[r.Trader]
		if !traded {
			return api.Done, []byte{0, 0, 0}
		}
		return api.Done, tell([]byte{1}, 2, price)
	}
}

func tellClearing(m *Market) deed {
	return func(request.Request) (byte, []byte) {
		b := tell(nil, 4, m.batch.number-1)
		b = tell(b, 1, m.last.pairs, m.last.fills)
		b = tell(b, 2, m.last.pay, m.last.get)
		b = tell(b, 8, m.accounts[house][accounts.Cash].Free)
		return api.Done, numbers.Append(b, m.last.share, 8)
	}
}

// tell puts numbers, each of so many bytes, behind b.
func tell(b []byte, size int, list ...int) []byte {
	for _, n := range list {
		b = numbers.Append(b, uint64(n), size)
	}
	return b
}
