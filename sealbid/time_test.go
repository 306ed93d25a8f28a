package sealbid_test

import (
	"math"
	"testing"

	"sealbid/api"
	"sealbid/sealbid"
)

func number(n int) string {
	return string([]byte{byte(n >> 24), byte(n >> 16), byte(n >> 8), byte(n)})
}

// batchIs: at this reading the batch is that one, and ends then.
func batchIs(t *testing.T, x *sealbid.Exchange, now, batch, end int) {
	t.Helper()
	expect(t, x, now, askBatch, done+number(batch)+wide(end)+"\x00")
}

func TestP5SecondExample(t *testing.T) {
	x := open(t, 10, 5)
	put, buy := "\x01\x00\x00\x00\x00\x00\x00\x00\x03\xe8", "\x05\x00\x00\x00\x09"
	expect(t, x, 0, put, "\x00")
	expect(t, x, 1, buy, "\x00\x01")
	expect(t, x, 1, "\x07\x00", "\x00"+wide(991, 9, 0, 0))
	expect(t, x, 9, "\x08", "\x00\x00\x00\x00\x01\x00\x00\x00\x00\x00\x00\x00\x0a\x01")
	expect(t, x, 12, "\x07\x00", "\x00"+wide(1000, 0, 0, 0))
	batchIs(t, x, 12, 2, 22)
	want := "\x0a" + wide(0) + put + "\xa5" + "\x05" + wide(1) + buy + "\xa5" + "\x00" + wide(12) + "\xa5"
	if s := journalOf(t, x); s != want {
		t.Errorf("P7: the journal is %x, want %x", s, want)
	}
}

func TestP5TimeReachesTheEnd(t *testing.T) {
	x := open(t, 10, 5)
	batchIs(t, x, 0, 1, 10)
	batchIs(t, x, 9, 1, 10)
	batchIs(t, x, 10, 2, 20)
	batchIs(t, x, 10, 2, 20)
	batchIs(t, x, 19, 2, 20)
	batchIs(t, x, 20, 3, 30)
	batchIs(t, x, 31, 4, 41)
	batchIs(t, x, 40, 4, 41)
	batchIs(t, x, 41, 5, 51)
}

func TestP5TimeGoesBack(t *testing.T) {
	x := open(t, 10, 5)
	for _, now := range []int{-1, math.MinInt, 0} {
		expect(t, x, now, moves(api.PutCash, 0, 1), done)
	}
	expect(t, x, 7, moves(api.PutCash, 0, 1), done)
	expect(t, x, 3, moves(api.PutCash, 0, 1), done)
	batchIs(t, x, 12, 2, 22)
	batchIs(t, x, 5, 2, 22)
	batchIs(t, x, -1, 2, 22)
	expect(t, x, math.MinInt, moves(api.PutCash, 0, 1), done)
	r := moves(api.PutCash, 0, 1)
	if s, want := journalOf(t, x), record(0, r)+record(0, r)+record(0, r)+record(7, r)+record(7, r)+record(12, "")+record(12, r); s != want {
		t.Errorf("P5: the journal is %x, want %x", s, want)
	}
}

// TestP5TimeGoesOnWithAnyBytes: whatever comes with a reading, the reading counts.
func TestP5TimeGoesOnWithAnyBytes(t *testing.T) {
	for _, r := range []string{"", "\x00", "\xff", asks(api.Account, 20), moves(api.PutCash, 0, 0), asks(api.Cancel, 0), askBatch, asks(api.Result, 1), asks(api.Account, 1), askClearing} {
		x := open(t, 10, 5)
		answer(t, x, 8, r)
		put := moves(api.PutCash, 0, 1)
		expect(t, x, 0, put, done)
		answer(t, x, 25, r)
		batchIs(t, x, 0, 2, 35)
		if s, want := journalOf(t, x), record(8, put)+record(25, ""); s != want {
			t.Errorf("P5: with %x: the journal is %x, want %x", r, s, want)
		}
	}
}

func TestP5OnlyOneBatchIsCleared(t *testing.T) {
	x := open(t, 10, 5)
	expectAll(t, x, 0, moves(api.PutCash, 0, 5), orders(0, api.Buy, 5))
	batchIs(t, x, 1_000_000, 2, 1_000_010)
	batchIs(t, x, 1_000_000, 2, 1_000_010)
	batchIs(t, x, 2_000_000, 3, 2_000_010)
	if s, want := len(journalOf(t, x)), len(record(0, moves(api.PutCash, 0, 5))+record(0, orders(0, 0, 5))+record(0, "")+record(0, "")); s != want {
		t.Errorf("P5: the journal has %d bytes, want %d", s, want)
	}
}

func TestP5TimeAboveTheGreatest(t *testing.T) {
	for _, now := range []int{api.MaxTime, api.MaxTime + 1, api.MaxTime + 10, math.MaxInt} {
		x := open(t, 10, 5)
		batchIs(t, x, now, 2, api.MaxTime+10)
		batchIs(t, x, now, 2, api.MaxTime+10)
		batchIs(t, x, api.MaxTime+10, 2, api.MaxTime+10)
		batchIs(t, x, math.MaxInt, 2, api.MaxTime+10)
		batchIs(t, x, 0, 2, api.MaxTime+10)
		r := moves(api.PutUnits, 3, 7)
		expect(t, x, now, r, done)
		if s, want := journalOf(t, x), record(api.MaxTime, "")+record(api.MaxTime, r); s != want {
			t.Errorf("P5: at %d the journal is %x, want %x", now, s, want)
		}
	}
}

// TestP5LongestPeriod: a batch may end at the greatest time; behind it none ends.
func TestP5LongestPeriod(t *testing.T) {
	x := open(t, api.MaxTime, 5)
	batchIs(t, x, 0, 1, api.MaxTime)
	batchIs(t, x, api.MaxTime-1, 1, api.MaxTime)
	batchIs(t, x, api.MaxTime, 2, 2*api.MaxTime)
	batchIs(t, x, math.MaxInt, 2, 2*api.MaxTime)
	y := open(t, api.MaxTime-1, 5)
	batchIs(t, y, api.MaxTime-2, 1, api.MaxTime-1)
	batchIs(t, y, api.MaxTime-1, 2, 2*api.MaxTime-2)
	batchIs(t, y, math.MaxInt, 2, 2*api.MaxTime-2)
}

func TestP5ShortestPeriod(t *testing.T) {
	x := open(t, 1, 5)
	batchIs(t, x, 0, 1, 1)
	for now := 1; now < 700; now++ {
		batchIs(t, x, now, now+1, now+1)
	}
}

// TestP5ClearedAheadOfTheRequest: the request meets the accounts and the batch that the clearing left.
func TestP5ClearedAheadOfTheRequest(t *testing.T) {
	x := open(t, 10, 1)
	expectAll(t, x, 0, moves(api.PutCash, 0, 9), orders(0, api.Buy, 9))
	expect(t, x, 9, moves(api.TakeCash, 0, 1), code(api.Short))
	expect(t, x, 9, orders(0, api.Buy, 9), code(api.Live))
	expect(t, x, 10, orders(0, api.Buy, 9), done+"\x01")
	expect(t, x, 19, moves(api.TakeCash, 0, 9), code(api.Short))
	expect(t, x, 20, moves(api.TakeCash, 0, 9), done)
	expect(t, x, 30, asks(api.Cancel, 0), code(api.Nothing))
}
