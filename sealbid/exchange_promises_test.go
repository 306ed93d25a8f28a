package sealbid_test

import (
	"encoding/binary"
	"testing"

	"sealbid/api"
	"sealbid/sealbid"
)

// refused: requests of each kind that are not Done where trader 0 bids all their cash, trader 1 offers their only unit, and the batch is full with that.
var refused = []string{
	"", "\x00", "\x0b", "\xff", asks(api.Batch, 0), asks(api.Clearing, 0), moves(api.PutCash, 0, 5)[:9], orders(0, 0, 5) + "\x00",
	moves(api.PutCash, 20, 5), orders(255, 0, 5), asks(api.Cancel, 20), asks(api.Account, 20), asks(api.Result, 20),
	moves(api.PutCash, 0, 0), moves(api.PutCash, 0, -1), moves(api.PutCash, 2, api.MaxSum),
	moves(api.PutUnits, 0, 0), moves(api.PutUnits, 0, -1), moves(api.PutUnits, 2, api.MaxSum),
	moves(api.TakeCash, 0, 0), moves(api.TakeCash, 0, 1), moves(api.TakeCash, 0, -1),
	moves(api.TakeUnits, 1, 0), moves(api.TakeUnits, 1, 1), moves(api.TakeUnits, 1, -1),
	orders(2, 2, 5), orders(2, 0, 0), orders(2, 1, 1000), orders(0, 0, 5), orders(1, 1, 5), orders(2, 0, 5), orders(2, 1, 5),
	asks(api.Cancel, 2),
}

// full: an exchange as refused asks for, at the time 3.
func full(t *testing.T) *sealbid.Exchange {
	t.Helper()
	x := open(t, 10, 2)
	expectAll(t, x, 0, moves(api.PutCash, 0, 700), moves(api.PutUnits, 1, 1))
	expectAll(t, x, 3, orders(0, api.Buy, 700), orders(1, api.Sell, 300))
	return x
}

func TestP6ChangesNothing(t *testing.T) {
	x := full(t)
	before := view(t, x, 3)
	for _, r := range refused {
		if s := answer(t, x, 3, r); s[0] == api.Done || len(s) != 1 {
			t.Errorf("P6: Do(3, %x) = %x", r, s)
		}
		if view(t, x, 3) != before {
			t.Fatalf("P6: %x was refused, but has changed something", r)
		}
	}
}

// TestP6TimeGoesOn holds an exchange that was asked something it refuses against one that was asked for its batch alone.
func TestP6TimeGoesOn(t *testing.T) {
	for _, r := range refused {
		for _, now := range []int{2, 3, 9, 10, 11, 500, api.MaxTime + 5} {
			x, y := full(t), full(t)
			if s := answer(t, x, now, r); s[0] == api.Done {
				continue // behind the clearing it may be Done
			}
			answer(t, y, now, askBatch)
			if view(t, x, 0) != view(t, y, 0) {
				t.Fatalf("P6: %x at %d was refused, but has changed more than the time and the batch", r, now)
			}
			// The time itself is seen in the next record.
			put := moves(api.PutUnits, 5, 1)
			if answer(t, x, 0, put) != done || answer(t, y, 0, put) != done || journalOf(t, x) != journalOf(t, y) {
				t.Fatalf("P6: %x at %d was refused; the time is another than with another request", r, now)
			}
		}
	}
}

func TestP6Scripts(t *testing.T) {
	for seed := range uint64(20) {
		x := open(t, 10, 4)
		for _, s := range script(seed, 200) {
			answer(t, x, s.now, askBatch) // the time is s.now, and what had to be cleared is
			before := view(t, x, s.now)
			if got := answer(t, x, s.now, s.request); got[0] != api.Done && view(t, x, s.now) != before {
				t.Fatalf("P6: script %d: %x at %d is %x, but has changed something", seed, s.request, s.now, got)
			}
		}
	}
}

// TestP6Questions: nor does what only asks change anything.
func TestP6Questions(t *testing.T) {
	x := full(t)
	before := view(t, x, 3)
	if view(t, x, 3) != before {
		t.Error("P6: a question changed something")
	}
}

func TestP7Records(t *testing.T) {
	x := open(t, 10, 5)
	want := ""
	add := func(now int, r string) {
		t.Helper()
		expectAll(t, x, now, r)
		want += record(now, r)
		if s := journalOf(t, x); s != want {
			t.Fatalf("P7: the journal is %x, want %x", s, want)
		}
	}
	add(0, moves(api.PutCash, 0, 1000))
	add(1, moves(api.TakeCash, 0, 1))
	add(2, moves(api.PutUnits, 19, 0x0102030405))
	add(2, moves(api.TakeUnits, 19, 1))
	add(3, orders(0, api.Buy, 999))
	add(3, asks(api.Cancel, 0))
	add(4, orders(0, api.Buy, 998))
	for _, r := range append([]string{asks(api.Account, 0), askBatch, asks(api.Result, 0), askClearing, ""}, refused[:13]...) {
		answer(t, x, 9, r)
	}
	if s := journalOf(t, x); s != want {
		t.Fatalf("P7: what only asks, or is refused, stands in the journal: %x, want %x", s, want)
	}
	want += record(0x010203, "")
	add(0x010203, orders(19, api.Sell, 1))
	for _, r := range []string{askBatch, "", moves(api.PutCash, 0, 0)} {
		now := int(binary.BigEndian.Uint64([]byte(answer(t, x, 0, askBatch)[5:13])))
		answer(t, x, now, r)
		want += record(now, "")
		if s := journalOf(t, x); s != want {
			t.Fatalf("P7: cleared ahead of %x: the journal is %x, want %x", r, s, want)
		}
	}
}

// TestP7EachByteCounts: one record written out by hand.
func TestP7EachByteCounts(t *testing.T) {
	x := open(t, 0x0203040506070, 5)
	expectAll(t, x, 0x0102030405060, moves(api.PutUnits, 19, 0x0008090a0b0c0d))
	want := "\x0a" + "\x00\x00\x10\x20\x30\x40\x50\x60" + "\x03\x13\x00\x00\x08\x09\x0a\x0b\x0c\x0d" + "\xa5"
	if s := journalOf(t, x); s != want {
		t.Errorf("P7: the journal is %x, want %x", s, want)
	}
	expectAll(t, x, 0x0203040506070, askBatch)
	want += "\x00" + "\x00\x00\x20\x30\x40\x50\x60\x70" + "\xa5"
	if s := journalOf(t, x); s != want {
		t.Errorf("P7: the journal is %x, want %x", s, want)
	}
}

// sums: all cash and all units, as they are told; and that none is below 0 or above what may be.
func sums(t *testing.T, x *sealbid.Exchange) (cash, units int) {
	t.Helper()
	four := func(s string) []int {
		var list []int
		for ; len(s) >= 8; s = s[8:] {
			n := binary.BigEndian.Uint64([]byte(s))
			if n > api.MaxSum {
				t.Fatalf("P11: an account has %d", int(n))
			}
			list = append(list, int(n))
		}
		return list
	}
	for trader := range api.MaxTraders {
		a := four(answer(t, x, 0, asks(api.Account, trader))[1:])
		cash += a[0] + a[1]
		units += a[2] + a[3]
	}
	return cash + four(answer(t, x, 0, askClearing)[11:19])[0], units
}

func TestP11NothingComesOrGoes(t *testing.T) {
	for seed := range uint64(100) {
		x := open(t, 7, 6)
		cash, units := 0, 0
		for i, s := range script(seed, 200) {
			if got := answer(t, x, s.now, s.request); got == done && len(s.request) == 10 {
				n := int(binary.BigEndian.Uint64([]byte(s.request[2:])))
				switch s.request[0] {
				case api.PutCash:
					cash += n
				case api.TakeCash:
					cash -= n
				case api.PutUnits:
					units += n
				case api.TakeUnits:
					units -= n
				}
			}
			if c, u := sums(t, x); c != cash || u != units {
				t.Fatalf("P11: script %d, step %d, Do(%d, %x): there are %d and %d, want %d and %d", seed, i, s.now, s.request, c, u, cash, units)
			}
		}
	}
}

// TestP11AllIsSpent: those who trade have nothing but what the trade takes.
func TestP11AllIsSpent(t *testing.T) {
	x := open(t, 10, 20)
	for i := range 10 {
		expectAll(t, x, 0, moves(api.PutCash, i, 500+i), orders(i, api.Buy, 500+i), moves(api.PutUnits, 10+i, 1), orders(10+i, api.Sell, 500-i))
	}
	expectAll(t, x, 10, askBatch)
	if c, u := sums(t, x); c != 5045 || u != 10 {
		t.Errorf("P11: there are %d and %d", c, u)
	}
	expect(t, x, 10, asks(api.Account, 0), done+wide(0, 0, 1, 0))
	expect(t, x, 10, asks(api.Account, 10), done+wide(500, 0, 0, 0))
}

// sealedStep is a step of a trader; an order of theirs has another price in the other exchange.
type sealedStep struct {
	trader int
	step
	price [2]int
}

// sealedScript: all traders have so much that their orders are in the batch at any price.
func sealedScript(seed uint64, traders, count int) []sealedStep {
	c := chooser{state: seed}
	var list []sealedStep
	for trader := range traders {
		list = append(list, sealedStep{trader: trader, step: step{0, moves(api.PutCash, trader, 5000)}}, sealedStep{trader: trader, step: step{0, moves(api.PutUnits, trader, 5)}})
	}
	now := 0
	for range count {
		now = min(now+c.below(2), 99)
		s := sealedStep{trader: c.below(traders), step: step{now: now}}
		switch c.below(10) {
		case 0, 1, 2, 3:
			s.price = [2]int{1 + c.below(999), 1 + c.below(999)}
			s.request = orders(s.trader, c.below(2), s.price[0])
		case 4:
			s.request = asks(api.Cancel, s.trader)
		case 5:
			s.request = moves(c.of(api.PutCash, api.PutUnits), s.trader, c.of(1, 5, api.MaxSum-5000*traders, api.MaxSum-5*traders, api.MaxSum))
		case 6:
			s.request = askBatch
		case 7:
			s.request = askClearing
		default:
			s.request = asks(c.of(api.Account, api.Result), s.trader)
		}
		list = append(list, s)
	}
	return list
}

// withPrice: the step's request, of an order with the second price.
func (s sealedStep) withPrice() string {
	if s.request[0] != api.Order {
		return s.request
	}
	return orders(s.trader, int(s.request[2]), s.price[1])
}

func TestP10SealedBids(t *testing.T) {
	const traders = 5
	differ := 0
	for seed := range uint64(40) {
		list := sealedScript(seed, traders, 80)
		for who := range traders {
			x, y := open(t, 100, 4), open(t, 100, 4)
			for i, s := range list {
				other := s.request
				if s.trader != who {
					other = s.withPrice()
				}
				got, want := answer(t, y, s.now, other), answer(t, x, s.now, s.request)
				if got != want && (s.trader == who || s.request == askBatch) {
					t.Fatalf("P10: script %d, step %d: trader %d is told %x or %x of %x, by the others' prices", seed, i, who, want, got, s.request)
				}
			}
			for _, r := range []string{asks(api.Account, who), asks(api.Result, who), askBatch, askClearing} {
				if answer(t, x, 99, r) != answer(t, y, 99, r) {
					t.Fatalf("P10: script %d: trader %d is told something of %x by the others' prices", seed, who, r)
				}
			}
			if answer(t, x, 100, askClearing) != answer(t, y, 100, askClearing) {
				differ++
			}
		}
	}
	if differ < 100 {
		t.Errorf("the prices are of no weight: only %d clearings differ", differ)
	}
}

// TestP10SumIsSealed: how much may still be put in does not hang on what is held for the others.
func TestP10SumIsSealed(t *testing.T) {
	for _, price := range []int{1, 500, 999} {
		x := open(t, 10, 5)
		expectAll(t, x, 0, moves(api.PutCash, 0, api.MaxSum-10), orders(0, api.Buy, price))
		expect(t, x, 0, moves(api.PutCash, 1, 11), code(api.Sum))
		expect(t, x, 0, moves(api.PutCash, 1, 10), done)
		expect(t, x, 0, moves(api.PutCash, 1, 1), code(api.Sum))
	}
}
