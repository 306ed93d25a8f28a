// Package sealbid: an exchange with sealed bids: see DOC.md.
package sealbid

import (
	"sealbid/api"
	"sealbid/clearing"
	"sealbid/market"
)

// Exchange has accounts, orders and a journal.
type Exchange struct {
	market *market.Market
}

// Clear clears orders, in the order in which they came (P3).
func Clear(l []api.Bid) api.Outcome { return clearing.Clear(l) }

// Open makes an exchange of a journal (P4).
func Open(c api.Config, journal string) (*Exchange, api.Errno) {
	if c.Period < 1 || c.Period > api.MaxTime || c.Batch < 1 || c.Batch > api.MaxBatch {
		return nil, api.ErrConfig
	}
	return &Exchange{market: market.Open(c, journal)}, api.OK
}

// Do answers a request, at a time (P5).
func (x *Exchange) Do(now int, request string) (string, api.Errno) {
	if x == nil {
		return "", api.ErrNil
	}
	return x.market.Do(now, request), api.OK
}

// Journal tells the journal (P7).
func (x *Exchange) Journal() (string, api.Errno) {
	if x == nil {
		return "", api.ErrNil
	}
	return x.market.Journal(), api.OK
}
