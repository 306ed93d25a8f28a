// Package sealbid: an exchange with sealed bids: see DOC.md.
package sealbid

import (
	"sealbid/api"
	"sealbid/clearing"
)

// Exchange has accounts, orders and a journal.
type Exchange struct{}

// Clear clears orders, in the order in which they came (P3).
func Clear(l []api.Bid) api.Outcome { return clearing.Clear(l) }

// Open makes an exchange of a journal (P4).
func Open(c api.Config, journal string) (*Exchange, api.Errno) { return nil, api.OK }

// Do answers a request, at a time (P5).
func (x *Exchange) Do(now int, request string) (string, api.Errno) { return "", api.OK }

// Journal tells the journal (P7).
func (x *Exchange) Journal() (string, api.Errno) { return "", api.OK }
