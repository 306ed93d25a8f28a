// Package request reads requests from their bytes.
package request

import (
	"sealbid/api"
	"sealbid/numbers"
)

// Request is what the bytes say; what its kind does not have is 0.
type Request struct {
	Kind, Trader int
	Amount       uint64 // any eight bytes: an int could not hold them all
	Side, Price  int
}

// Read answers api.Bytes or api.Trader if these bytes can't be asked of any exchange, else api.Done.
func Read(s string) (Request, byte) {
	if s == "" || len(s) != size(s[0]) {
		return Request{}, api.Bytes
	}
	r := Request{Kind: int(s[0])}
	if len(s) > 1 {
		r.Trader = int(s[1])
	}
	if r.Trader >= api.MaxTraders {
		return Request{}, api.Trader
	}
	switch r.Kind {
	case api.PutCash, api.TakeCash, api.PutUnits, api.TakeUnits:
		r.Amount = numbers.Read(s[2:])
	case api.Order:
		r.Side, r.Price = int(s[2]), int(numbers.Read(s[3:]))
	}
	return r, api.Done
}

// size is how many bytes a request of this kind has; 0, if there is no such kind.
func size(kind byte) int {
	switch kind {
	case api.PutCash, api.TakeCash, api.PutUnits, api.TakeUnits:
		return 10
	case api.Order:
		return 5
	case api.Cancel, api.Account, api.Result:
		return 2
	case api.Batch, api.Clearing:
		return 1
	}
	return 0
}
