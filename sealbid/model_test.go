package sealbid_test

import (
	"encoding/binary"
	"math/big"
	"slices"
	"testing"

	"sealbid/api"
)

// step is a request and the reading of the clock that it comes with.
type step struct {
	now     int
	request string
}

// chooser gives numbers that are the same at each run.
type chooser struct{ state uint64 }

func (c *chooser) below(n int) int {
	c.state = c.state*6364136223846793005 + 1442695040888963407
	return int(c.state>>33) % n
}

func (c *chooser) of(list ...int) int { return list[c.below(len(list))] }

// request: most are of a few traders and small amounts, so that orders meet; some are wrong in one way or another.
func (c *chooser) request() string {
	trader := c.below(6)
	if c.below(25) == 0 {
		trader = c.of(18, 19, 20, 21, 255)
	}
	switch kind := c.of(1, 1, 2, 3, 3, 4, 5, 5, 5, 5, 5, 5, 5, 6, 7, 8, 9, 10, 0); kind {
	case api.PutCash, api.TakeCash, api.PutUnits, api.TakeUnits:
		amount := c.below(12)
		if c.below(8) == 0 {
			amount = c.of(100, 1000, api.MaxSum/2, api.MaxSum-20, api.MaxSum, api.MaxSum+1, 1<<63-1, -1<<63, -1)
		}
		return moves(kind, trader, amount)
	case api.Order:
		side, price := c.below(2), 1+c.below(9)
		switch c.below(12) {
		case 0:
			side = c.of(2, 255)
		case 1:
			price = c.of(0, 1, 500, 999, 1000, 65535)
		}
		return orders(trader, side, price)
	case api.Cancel, api.Account, api.Result:
		return asks(kind, trader)
	case api.Batch, api.Clearing:
		return string([]byte{byte(kind)})
	}
	b := make([]byte, c.below(13))
	for i := range b {
		b[i] = byte(c.below(12))
	}
	return string(b)
}

// script: so many steps; the clock mostly goes on a little, at times stands, goes back or leaps, and at the end may pass the greatest time.
func script(seed uint64, count int) []step {
	c := chooser{state: seed*7919 + 1}
	now := 0
	var list []step
	for i := range count {
		switch c.below(10) {
		case 0, 1:
			now += 1 + c.below(4)
		case 2:
			now -= c.below(3)
		case 3:
			now += c.of(0, 0, 0, 9, 10, 1000)
		}
		if i == count-20 && c.below(2) == 0 {
			now = c.of(api.MaxTime-3, api.MaxTime+3)
		}
		list = append(list, step{now: now, request: c.request()})
	}
	return list
}

// plainOrder is an order in the plain exchange.
type plainOrder struct{ trader, side, price int }

// plain does what the document's words say, as simply as can be: what is held is not kept, but found from the orders.
type plain struct {
	period, most           int
	time, end, number, own int
	cash, units            [api.MaxTraders]int
	orders, lastOrders     []plainOrder
	last                   api.Outcome
	journal                string
}

func newPlain(period, most int) *plain {
	return &plain{period: period, most: most, end: period, number: 1, last: plainClear(nil)}
}

func (p *plain) held(trader int) (cash, units int) {
	for _, o := range p.orders {
		if o.trader == trader && o.side == api.Buy {
			cash += o.price
		} else if o.trader == trader {
			units++
		}
	}
	return cash, units
}

func (p *plain) do(now int, r string) string {
	if now < p.time {
		now = p.time
	}
	if now > api.MaxTime {
		now = api.MaxTime
	}
	p.time = now
	if now >= p.end {
		p.clear()
		p.journal += record(now, "")
	}
	s := p.respond([]byte(r))
	if s[0] == api.Done && r[0] <= api.Cancel {
		p.journal += record(now, r)
	}
	return s
}

func (p *plain) clear() {
	var l []api.Bid
	for _, o := range p.orders {
		l = append(l, api.Bid{Side: o.side, Price: o.price})
	}
	p.last, p.lastOrders, p.orders = plainClear(l), p.orders, nil
	for i, o := range p.lastOrders {
		switch {
		case !p.last.Filled[i]:
		case o.side == api.Buy:
			p.cash[o.trader] -= p.last.Pay
			p.units[o.trader]++
			p.own += p.last.Pay
		default:
			p.cash[o.trader] += p.last.Get
			p.units[o.trader]--
			p.own -= p.last.Get
		}
	}
	p.number++
	p.end = p.time + p.period
}

func (p *plain) respond(r []byte) string {
	lengths := []int{-1, 10, 10, 10, 10, 5, 2, 2, 1, 2, 1}
	if len(r) == 0 || int(r[0]) >= len(lengths) || len(r) != lengths[r[0]] {
		return code(api.Bytes)
	}
	if len(r) > 1 && r[1] >= api.MaxTraders {
		return code(api.Trader)
	}
	switch r[0] {
	case api.PutCash:
		return p.put(&p.cash, p.own, int(r[1]), r[2:])
	case api.PutUnits:
		return p.put(&p.units, 0, int(r[1]), r[2:])
	case api.TakeCash:
		held, _ := p.held(int(r[1]))
		return p.take(&p.cash, held, int(r[1]), r[2:])
	case api.TakeUnits:
		_, held := p.held(int(r[1]))
		return p.take(&p.units, held, int(r[1]), r[2:])
	case api.Order:
		return p.order(plainOrder{int(r[1]), int(r[2]), int(r[3])*256 + int(r[4])})
	case api.Cancel:
		n := len(p.orders)
		p.orders = slices.DeleteFunc(p.orders, func(o plainOrder) bool { return o.trader == int(r[1]) })
		if len(p.orders) == n {
			return code(api.Nothing)
		}
		return done
	}
	return p.tell(r)
}

func (p *plain) put(all *[api.MaxTraders]int, own, trader int, amount []byte) string {
	n := new(big.Int).SetBytes(amount)
	sum := new(big.Int).Add(n, big.NewInt(int64(own)))
	for _, has := range all {
		sum.Add(sum, big.NewInt(int64(has)))
	}
	if n.Sign() == 0 {
		return code(api.Amount)
	}
	if sum.Cmp(big.NewInt(api.MaxSum)) > 0 {
		return code(api.Sum)
	}
	all[trader] += int(n.Int64())
	return done
}

func (p *plain) take(all *[api.MaxTraders]int, held, trader int, amount []byte) string {
	n := new(big.Int).SetBytes(amount)
	if n.Sign() == 0 {
		return code(api.Amount)
	}
	if n.Cmp(big.NewInt(int64(all[trader]-held))) > 0 {
		return code(api.Short)
	}
	all[trader] -= int(n.Int64())
	return done
}

func (p *plain) order(o plainOrder) string {
	if o.side > 1 {
		return code(api.Side)
	}
	if o.price == 0 || o.price > 999 {
		return code(api.Price)
	}
	for _, other := range p.orders {
		if other.trader == o.trader {
			return code(api.Live)
		}
	}
	if len(p.orders) == p.most {
		return code(api.Full)
	}
	if o.side == 0 && p.cash[o.trader] < o.price || o.side == 1 && p.units[o.trader] == 0 {
		return code(api.Short)
	}
	p.orders = append(p.orders, o)
	return done + code(byte(len(p.orders)))
}

func (p *plain) tell(r []byte) string {
	b := []byte{api.Done}
	switch r[0] {
	case api.Account:
		cash, units := p.held(int(r[1]))
		return done + wide(p.cash[r[1]]-cash, cash, p.units[r[1]]-units, units)
	case api.Batch:
		return done + number(p.number) + wide(p.end) + code(byte(len(p.orders)))
	case api.Clearing:
		b = binary.BigEndian.AppendUint32(b, uint32(p.number-1))
		b = append(b, byte(p.last.Pairs), byte(p.last.Fills))
		b = binary.BigEndian.AppendUint16(b, uint16(p.last.Pay))
		b = binary.BigEndian.AppendUint16(b, uint16(p.last.Get))
		return string(b) + wide(p.own, int(p.last.Share))
	}
	for i, o := range p.lastOrders {
		if o.trader == int(r[1]) && p.last.Filled[i] {
			price := []int{p.last.Pay, p.last.Get}[o.side]
			return done + string([]byte{1, byte(price >> 8), byte(price)})
		}
	}
	return done + "\x00\x00\x00"
}

// TestP5AsTheWordsSay looks at every answer and at the journal, and that the scripts reach each code of each kind and clearings where some trade.
func TestP5AsTheWordsSay(t *testing.T) {
	seen := map[[2]byte]int{}
	traded, own := 0, 0
	for seed := range uint64(300) {
		c := chooser{state: seed}
		period, most := c.of(1, 2, 5, 10, 30, api.MaxTime-1, api.MaxTime), c.of(1, 3, 4, 6, 20)
		x, p := open(t, period, most), newPlain(period, most)
		for i, s := range script(seed, 300) {
			got, want := answer(t, x, s.now, s.request), p.do(s.now, s.request)
			if got != want {
				t.Fatalf("P5: script %d, step %d: Do(%d, %x) = %x, want %x", seed, i, s.now, s.request, got, want)
			}
			if j := journalOf(t, x); j != p.journal {
				t.Fatalf("P7: script %d, step %d: behind Do(%d, %x) the journal is %x, want %x", seed, i, s.now, s.request, j, p.journal)
			}
			if got[0] != api.Bytes {
				seen[[2]byte{s.request[0], got[0]}]++
			}
			traded = max(traded, p.last.Fills)
		}
		own = max(own, p.own)
	}
	if traded < 2 || own == 0 {
		t.Errorf("the scripts reach too little: %d trade, the exchange has %d", traded, own)
	}
	for kind, codes := range map[byte][]byte{
		api.PutCash: {api.Done, api.Trader, api.Amount, api.Sum}, api.PutUnits: {api.Done, api.Trader, api.Amount, api.Sum},
		api.TakeCash: {api.Done, api.Trader, api.Amount, api.Short}, api.TakeUnits: {api.Done, api.Trader, api.Amount, api.Short},
		api.Order:  {api.Done, api.Trader, api.Side, api.Price, api.Live, api.Full, api.Short},
		api.Cancel: {api.Done, api.Trader, api.Nothing}, api.Account: {api.Done, api.Trader}, api.Result: {api.Done, api.Trader},
		api.Batch: {api.Done}, api.Clearing: {api.Done},
	} {
		for _, n := range codes {
			if seen[[2]byte{kind, n}] == 0 {
				t.Errorf("the scripts do not reach code %d of kind %d", n, kind)
			}
		}
	}
}
