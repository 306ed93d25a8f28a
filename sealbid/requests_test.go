package sealbid_test

import (
	"math"
	"strings"
	"testing"

	"sealbid/api"
	"sealbid/sealbid"
)

func TestP5Bytes(t *testing.T) {
	x := open(t, 10, 5)
	sizes := map[int]int{
		api.PutCash: 10, api.TakeCash: 10, api.PutUnits: 10, api.TakeUnits: 10,
		api.Order: 5, api.Cancel: 2, api.Account: 2, api.Result: 2, api.Batch: 1, api.Clearing: 1,
	}
	expect(t, x, 0, "", code(api.Bytes))
	for kind := range 256 {
		for n := range 300 {
			// A trader that is not there and an amount of 0 are told of only if the bytes are a request.
			for _, fill := range []string{"\x00", "\xff"} {
				if r := code(byte(kind)) + strings.Repeat(fill, n); len(r) != sizes[kind] {
					expect(t, x, 0, r, code(api.Bytes))
				}
			}
		}
	}
}

func TestP5Trader(t *testing.T) {
	x := open(t, 10, 5)
	for trader := range 256 {
		for _, r := range []string{
			moves(api.PutCash, trader, 0), moves(api.TakeCash, trader, 0), moves(api.PutUnits, trader, 0), moves(api.TakeUnits, trader, 0),
			moves(api.PutCash, trader, -1), moves(api.TakeUnits, trader, 1),
			orders(trader, 2, 0), orders(trader, 0, 1000), orders(trader, 1, 5),
			asks(api.Cancel, trader), asks(api.Account, trader), asks(api.Result, trader),
		} {
			s := answer(t, x, 0, r)
			if trader < api.MaxTraders && s[0] == api.Trader || trader >= api.MaxTraders && s != code(api.Trader) {
				t.Errorf("P5: Do(0, %x) = %x", r, s)
			}
		}
	}
}

// goods: the kinds of cash and of units, and where Account tells them.
var goods = []struct {
	name      string
	put, take int
	account   func(n int) string
}{
	{"cash", api.PutCash, api.TakeCash, func(n int) string { return done + wide(n, 0, 0, 0) }},
	{"units", api.PutUnits, api.TakeUnits, func(n int) string { return done + wide(0, 0, n, 0) }},
}

func TestP5PutAndTake(t *testing.T) {
	for _, g := range goods {
		x := open(t, 10, 5)
		for _, trader := range []int{0, 7, 19} {
			has := func(n int) { t.Helper(); expect(t, x, 0, asks(api.Account, trader), g.account(n)) }
			expect(t, x, 0, moves(g.put, trader, 0), code(api.Amount))
			expect(t, x, 0, moves(g.take, trader, 0), code(api.Amount))
			expect(t, x, 0, moves(g.take, trader, 1), code(api.Short))
			has(0)
			expect(t, x, 0, moves(g.put, trader, 1), done)
			has(1)
			expect(t, x, 0, moves(g.put, trader, 0x0102030405), done)
			has(0x0102030406)
			for _, n := range []int{0x0102030407, api.MaxSum, api.MaxSum + 1, math.MaxInt, math.MinInt, -1} {
				expect(t, x, 0, moves(g.take, trader, n), code(api.Short))
			}
			has(0x0102030406)
			expect(t, x, 0, moves(g.take, trader, 0x0102030405), done)
			has(1)
			expect(t, x, 0, moves(g.take, trader, 2), code(api.Short))
			expect(t, x, 0, moves(g.take, trader, 1), done)
			has(0)
			expect(t, x, 0, moves(g.take, trader, 1), code(api.Short))
		}
	}
}

func TestP5Sum(t *testing.T) {
	for _, g := range goods {
		x := open(t, 10, 5)
		for _, n := range []int{api.MaxSum + 1, api.MaxSum + 2, math.MaxInt, math.MinInt, -1, -api.MaxSum} {
			expect(t, x, 0, moves(g.put, 0, n), code(api.Sum))
		}
		expect(t, x, 0, moves(g.put, 0, api.MaxSum), done)
		for _, n := range []int{1, api.MaxSum, math.MaxInt, -1, -api.MaxSum} {
			expect(t, x, 0, moves(g.put, 0, n), code(api.Sum))
			expect(t, x, 0, moves(g.put, 19, n), code(api.Sum))
		}
		expect(t, x, 0, moves(g.put, 19, 0), code(api.Amount))
		expect(t, x, 0, moves(g.take, 0, 3), done)
		expect(t, x, 0, moves(g.put, 1, 4), code(api.Sum))
		expect(t, x, 0, moves(g.put, 1, 2), done)
		expect(t, x, 0, moves(g.put, 2, 2), code(api.Sum))
		expect(t, x, 0, moves(g.put, 2, 1), done)
		expect(t, x, 0, moves(g.put, 3, 1), code(api.Sum))
		expect(t, x, 0, asks(api.Account, 0), g.account(api.MaxSum-3))
		expect(t, x, 0, asks(api.Account, 1), g.account(2))
		expect(t, x, 0, asks(api.Account, 2), g.account(1))
	}
}

// TestP5SumOfEachGood: cash does not count among units, nor units among cash.
func TestP5SumOfEachGood(t *testing.T) {
	x := open(t, 10, 5)
	expectAll(t, x, 0, moves(api.PutCash, 4, api.MaxSum), moves(api.PutUnits, 4, api.MaxSum))
	expect(t, x, 0, asks(api.Account, 4), done+wide(api.MaxSum, 0, api.MaxSum, 0))
	expectAll(t, x, 0, moves(api.TakeCash, 4, 1))
	expect(t, x, 0, moves(api.PutUnits, 4, 1), code(api.Sum))
	expect(t, x, 0, moves(api.PutCash, 4, 1), done)
}

// TestP5SumOfHeldAndOwn: what is held counts, and what the exchange has.
func TestP5SumOfHeldAndOwn(t *testing.T) {
	x := open(t, 10, 5)
	expectAll(t, x, 0, moves(api.PutCash, 0, api.MaxSum), moves(api.PutUnits, 2, api.MaxSum), moves(api.TakeCash, 0, 500), moves(api.PutCash, 1, 500))
	expectAll(t, x, 0, orders(0, api.Buy, 9), orders(1, api.Buy, 8), orders(2, api.Sell, 3))
	expect(t, x, 0, moves(api.PutCash, 3, 1), code(api.Sum))
	expect(t, x, 0, moves(api.PutUnits, 3, 1), code(api.Sum))
	expectAll(t, x, 0, moves(api.TakeUnits, 2, 1), moves(api.PutUnits, 3, 1), orders(3, api.Sell, 7))
	expect(t, x, 10, moves(api.PutCash, 3, 1), code(api.Sum))
	if own := answer(t, x, 10, askClearing)[11:19]; own != wide(1) {
		t.Fatalf("P5: the exchange has %x", own)
	}
	expectAll(t, x, 10, moves(api.TakeCash, 0, 1))
	expect(t, x, 10, moves(api.PutCash, 3, 2), code(api.Sum))
	expect(t, x, 10, moves(api.PutCash, 3, 1), done)
}

// TestP5OrderCodes: of all that is wrong with an order the first is told.
func TestP5OrderCodes(t *testing.T) {
	x := open(t, 10, 2)
	expectAll(t, x, 0, moves(api.PutCash, 0, 100), moves(api.PutUnits, 1, 1), moves(api.PutCash, 2, 999))
	try := func(trader, side, price int, want string) {
		t.Helper()
		expect(t, x, 0, orders(trader, side, price), want)
	}
	for _, side := range []int{2, 3, 127, 128, 255} {
		try(0, side, 50, code(api.Side))
		try(0, side, 0, code(api.Side))
		try(9, side, 1000, code(api.Side))
	}
	for _, price := range []int{0, 1000, 1001, 32767, 32768, 65535} {
		try(0, api.Buy, price, code(api.Price))
		try(1, api.Sell, price, code(api.Price))
		try(9, api.Sell, price, code(api.Price))
	}
	try(0, api.Buy, 101, code(api.Short))
	try(0, api.Buy, 999, code(api.Short))
	try(0, api.Sell, 1, code(api.Short))
	try(1, api.Buy, 1, code(api.Short))
	try(0, api.Buy, 100, done+"\x01")
	try(0, 2, 0, code(api.Side))
	try(0, api.Sell, 0, code(api.Price))
	try(0, api.Buy, 1, code(api.Live))
	try(0, api.Sell, 1, code(api.Live))
	try(1, api.Sell, 999, done+"\x02")
	try(1, 2, 0, code(api.Side))
	try(1, api.Buy, 1000, code(api.Price))
	try(1, api.Sell, 5, code(api.Live))
	try(2, 2, 0, code(api.Side))
	try(2, api.Buy, 0, code(api.Price))
	try(2, api.Buy, 999, code(api.Full))
	try(2, api.Sell, 5, code(api.Full))
	try(9, api.Buy, 5, code(api.Full))
	expectAll(t, x, 0, asks(api.Cancel, 0))
	try(9, api.Buy, 5, code(api.Short))
	try(2, api.Buy, 999, done+"\x02")
	try(0, api.Buy, 1, code(api.Full))
}

func TestP5BatchSizes(t *testing.T) {
	for size := 1; size <= api.MaxBatch; size++ {
		x := open(t, 10, size)
		for trader := range api.MaxTraders {
			expectAll(t, x, 0, moves(api.PutCash, trader, 5))
			want := done + code(byte(trader+1))
			if trader >= size {
				want = code(api.Full)
			}
			expect(t, x, 0, orders(trader, api.Buy, 5), want)
		}
		expect(t, x, 0, askBatch, done+"\x00\x00\x00\x01"+wide(10)+code(byte(size)))
		expect(t, x, 10, orders(19, api.Buy, 5), done+"\x01")
	}
}

func TestP5HeldIsNotFree(t *testing.T) {
	x := open(t, 10, 5)
	expectAll(t, x, 0, moves(api.PutCash, 0, 300), moves(api.PutUnits, 0, 2), moves(api.PutUnits, 1, 1))
	expect(t, x, 0, orders(0, api.Buy, 299), done+"\x01")
	expect(t, x, 0, asks(api.Account, 0), done+wide(1, 299, 2, 0))
	expect(t, x, 0, moves(api.TakeCash, 0, 2), code(api.Short))
	expect(t, x, 0, moves(api.TakeCash, 0, 1), done)
	expect(t, x, 0, moves(api.TakeCash, 0, 1), code(api.Short))
	expect(t, x, 0, asks(api.Account, 0), done+wide(0, 299, 2, 0))
	expect(t, x, 0, asks(api.Cancel, 0), done)
	expect(t, x, 0, asks(api.Account, 0), done+wide(299, 0, 2, 0))
	expect(t, x, 0, orders(0, api.Sell, 999), done+"\x01")
	expect(t, x, 0, asks(api.Account, 0), done+wide(299, 0, 1, 1))
	expect(t, x, 0, moves(api.TakeUnits, 0, 2), code(api.Short))
	expect(t, x, 0, orders(1, api.Sell, 1), done+"\x02")
	expect(t, x, 0, asks(api.Account, 1), done+wide(0, 0, 0, 1))
	expect(t, x, 0, moves(api.TakeUnits, 1, 1), code(api.Short))
	expect(t, x, 0, asks(api.Cancel, 0), done)
	expect(t, x, 0, asks(api.Account, 0), done+wide(299, 0, 2, 0))
	expect(t, x, 0, asks(api.Account, 1), done+wide(0, 0, 0, 1))
}

func TestP5Cancel(t *testing.T) {
	x := open(t, 10, 5)
	expectAll(t, x, 0, moves(api.PutCash, 0, 50), moves(api.PutCash, 1, 50), moves(api.PutCash, 2, 50))
	expect(t, x, 0, asks(api.Cancel, 0), code(api.Nothing))
	expectAll(t, x, 0, orders(0, api.Buy, 10), orders(1, api.Buy, 20), orders(2, api.Buy, 30))
	expect(t, x, 0, asks(api.Cancel, 3), code(api.Nothing))
	expect(t, x, 0, asks(api.Cancel, 1), done)
	expect(t, x, 0, asks(api.Cancel, 1), code(api.Nothing))
	expect(t, x, 0, asks(api.Account, 0), done+wide(40, 10, 0, 0))
	expect(t, x, 0, asks(api.Account, 1), done+wide(50, 0, 0, 0))
	expect(t, x, 0, asks(api.Account, 2), done+wide(20, 30, 0, 0))
	expect(t, x, 0, askBatch, done+"\x00\x00\x00\x01"+wide(10)+"\x02")
	expect(t, x, 0, orders(1, api.Buy, 50), done+"\x03")
	expect(t, x, 0, asks(api.Cancel, 2), done)
	expect(t, x, 0, asks(api.Account, 1), done+wide(0, 50, 0, 0))
	// An order of a batch that was cleared is not in this one.
	expect(t, x, 10, asks(api.Cancel, 0), code(api.Nothing))
	expect(t, x, 10, asks(api.Cancel, 1), code(api.Nothing))
}

// TestP5BehindThoseThatCame: who cancels and orders again stands behind the others of the same price.
func TestP5BehindThoseThatCame(t *testing.T) {
	x := open(t, 10, 5)
	for trader := range 2 {
		expectAll(t, x, 0, moves(api.PutCash, trader, 400), orders(trader, api.Buy, 400))
	}
	for trader := 2; trader < 4; trader++ {
		expectAll(t, x, 0, moves(api.PutUnits, trader, 1), orders(trader, api.Sell, 100))
	}
	expectAll(t, x, 0, asks(api.Cancel, 0), orders(0, api.Buy, 400), asks(api.Cancel, 2), orders(2, api.Sell, 100))
	for trader, want := range []string{"\x00\x00\x00", "\x01\x01\x90", "\x00\x00\x00", "\x01\x00\x64"} {
		expect(t, x, 10, asks(api.Result, trader), done+want)
	}
}

// cleared: an exchange at 10 whose first batch had buyers of 9 and 8 and sellers of 3 and 7; traders 0 to 3.
func cleared(t *testing.T) *sealbid.Exchange {
	t.Helper()
	x := open(t, 10, 5)
	for trader, r := range []string{orders(0, api.Buy, 9), orders(1, api.Buy, 8), orders(2, api.Sell, 3), orders(3, api.Sell, 7)} {
		expectAll(t, x, 0, moves(api.PutCash, trader, 100), moves(api.PutUnits, trader, 5), r)
	}
	expectAll(t, x, 10, askBatch)
	return x
}

func TestP5TwoPrices(t *testing.T) {
	x := cleared(t)
	share := wide(int(math.Float64bits(6.0 / 7)))
	expect(t, x, 10, askClearing, done+"\x00\x00\x00\x01"+"\x02\x01"+"\x00\x08\x00\x07"+wide(1)+share)
	for trader, want := range []string{"\x01\x00\x08", "\x00\x00\x00", "\x01\x00\x07", "\x00\x00\x00", "\x00\x00\x00"} {
		expect(t, x, 10, asks(api.Result, trader), done+want)
	}
	for trader, want := range []string{wide(92, 0, 6, 0), wide(100, 0, 5, 0), wide(107, 0, 4, 0), wide(100, 0, 5, 0), wide(0, 0, 0, 0)} {
		expect(t, x, 10, asks(api.Account, trader), done+want)
	}
}

func TestP5OnePrice(t *testing.T) {
	x := open(t, 10, 5)
	for trader, r := range []string{orders(0, api.Sell, 300), orders(1, api.Buy, 950), orders(2, api.Buy, 290)} {
		expectAll(t, x, 0, moves(api.PutCash, trader, 1000), moves(api.PutUnits, trader, 1), r)
	}
	expect(t, x, 10, askClearing, done+"\x00\x00\x00\x01"+"\x01\x01"+"\x02\x85\x02\x85"+wide(0)+wide(int(math.Float64bits(1))))
	for trader, want := range []string{"\x01\x02\x85", "\x01\x02\x85", "\x00\x00\x00"} {
		expect(t, x, 10, asks(api.Result, trader), done+want)
	}
	for trader, want := range []string{wide(1645, 0, 0, 0), wide(355, 0, 2, 0), wide(1000, 0, 1, 0)} {
		expect(t, x, 10, asks(api.Account, trader), done+want)
	}
}

// TestP5LastClearing: a clearing of no orders is the last one too; the exchange keeps its cash, and gets more.
func TestP5LastClearing(t *testing.T) {
	x := cleared(t)
	one := wide(int(math.Float64bits(1)))
	expectAll(t, x, 20, askBatch)
	expect(t, x, 20, askClearing, done+"\x00\x00\x00\x02"+"\x00\x00"+"\x00\x00\x00\x00"+wide(1)+one)
	for trader := range api.MaxTraders {
		expect(t, x, 20, asks(api.Result, trader), done+"\x00\x00\x00")
	}
	expectAll(t, x, 20, orders(0, api.Buy, 90), orders(1, api.Buy, 80), orders(2, api.Sell, 30), orders(3, api.Sell, 70))
	expect(t, x, 20, asks(api.Result, 0), done+"\x00\x00\x00")
	expect(t, x, 29, askClearing, done+"\x00\x00\x00\x02"+"\x00\x00"+"\x00\x00\x00\x00"+wide(1)+one)
	expect(t, x, 30, askClearing, done+"\x00\x00\x00\x03"+"\x02\x01"+"\x00\x50\x00\x46"+wide(11)+wide(int(math.Float64bits(60.0/70))))
	expect(t, x, 30, asks(api.Result, 0), done+"\x01\x00\x50")
}

// TestP5ManyFills: what the exchange gets is of each pair that trades.
func TestP5ManyFills(t *testing.T) {
	x := open(t, 10, api.MaxBatch)
	for i := range 10 {
		expectAll(t, x, 0, moves(api.PutCash, i, 900), orders(i, api.Buy, 450-i), moves(api.PutUnits, 10+i, 1), orders(10+i, api.Sell, 100+i))
	}
	pay, get := 441, 109
	can, is := 0, 0
	for i := range 10 {
		can += 350 - 2*i
	}
	is = can - (pay - get)
	expect(t, x, 10, askClearing, done+"\x00\x00\x00\x01"+"\x0a\x09"+"\x01\xb9\x00\x6d"+wide(9*(pay-get))+wide(int(math.Float64bits(float64(is)/float64(can)))))
	for i := range 9 {
		expect(t, x, 10, asks(api.Account, i), done+wide(900-pay, 0, 1, 0))
		expect(t, x, 10, asks(api.Account, 10+i), done+wide(get, 0, 0, 0))
	}
	expect(t, x, 10, asks(api.Account, 9), done+wide(900, 0, 0, 0))
	expect(t, x, 10, asks(api.Account, 19), done+wide(0, 0, 1, 0))
}
