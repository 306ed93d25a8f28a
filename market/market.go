// Package market is the exchange at work: its time, its batches, and what requests do to them.
package market

import (
	"sealbid/accounts"
	"sealbid/api"
	"sealbid/clearing"
	"sealbid/journal"
	"sealbid/request"
)

// house owns the exchange's own account: it stands among the traders', so that a sum over all has it too, at a number that no request can name.
const house = api.MaxTraders

// Market is the state of an exchange.
type Market struct {
	config   api.Config
	time     int
	accounts accounts.Accounts
	batch    batch
	last     result
	journal  []byte
	deeds    map[int]deed
}

// result is what is still told of a clearing once its batch is gone.
type result struct {
	pairs, fills int
	pay, get     int
	share        uint64
	prices       map[int]int // what those who traded paid or got, by trader
}

// begin makes a market that has done nothing yet.
func begin(c api.Config) *Market {
	m := &Market{
		config:   c,
		accounts: accounts.Accounts{},
		batch:    batch{number: 1, end: c.Period},
		last:     resultOf(clearing.Clear(nil)),
	}
	m.deeds = deeds(m)
	return m
}

// Do answers a request that comes at this reading of the clock.
func (m *Market) Do(now int, text string) string {
	m.setTime(now)
	code, told := m.answer(text)
	return string(append([]byte{code}, told...))
}

// Journal is the records that were read, and those written since.
func (m *Market) Journal() string {
	return string(m.journal)
}

// setTime clears no more than one batch, however late it is: the next one's end hangs on the time at which this one was cleared.
func (m *Market) setTime(now int) {
	m.time = min(max(now, m.time), api.MaxTime)
	if m.time >= m.batch.end {
		m.clearBatch()
	}
}

// answer gives the code and, if it is Done, what is told.
func (m *Market) answer(text string) (code byte, told []byte) {
	r, code := request.Read(text)
	if code != api.Done {
		return code, nil
	}
	code, told = m.deeds[r.Kind](r)
	if code == api.Done && changes(r.Kind) {
		m.write(text)
	}
	return code, told
}

// changes: requests of the other kinds only ask.
func changes(kind int) bool {
	return kind >= api.PutCash && kind <= api.Cancel
}

func (m *Market) write(text string) {
	m.journal = journal.Append(m.journal, m.time, text)
}

func (m *Market) clearBatch() {
	x := clearing.Clear(m.batch.bids())
	m.last = resultOf(x)
	for i, o := range m.batch.orders {
		good, n := o.stake()
		m.accounts.Release(o.trader, good, n)
		if x.Filled[i] {
			m.trade(o)
		}
	}
	m.accounts.Put(house, accounts.Cash, x.Fills*(x.Pay-x.Get))
	m.batch = batch{number: m.batch.number + 1, end: m.time + m.config.Period}
	m.write("")
}

func resultOf(x api.Outcome) result {
	return result{pairs: x.Pairs, fills: x.Fills, pay: x.Pay, get: x.Get, share: x.Share, prices: map[int]int{}}
}

// trade moves what an order that is filled gives and gets, at the last clearing's prices; its stake is free by then.
func (m *Market) trade(o order) {
	if o.bid.Side == api.Buy {
		m.accounts.Take(o.trader, accounts.Cash, m.last.pay)
		m.accounts.Put(o.trader, accounts.Units, 1)
		m.last.prices[o.trader] = m.last.pay
		return
	}
	m.accounts.Take(o.trader, accounts.Units, 1)
	m.accounts.Put(o.trader, accounts.Cash, m.last.get)
	m.last.prices[o.trader] = m.last.get
}
