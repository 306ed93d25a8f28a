package sealbid_test

import (
	"encoding/binary"
	"math"
	"strings"
	"testing"

	"sealbid/api"
	"sealbid/sealbid"
)

// code: a response that is nothing but a code.
func code(n byte) string { return string([]byte{n}) }

const done = "\x00"

// wide: numbers of eight bytes.
func wide(list ...int) string {
	var b []byte
	for _, n := range list {
		b = binary.BigEndian.AppendUint64(b, uint64(n))
	}
	return string(b)
}

// moves: a request to put or to take. (An amount below 0 stands for one above the greatest int.)
func moves(kind, trader, amount int) string {
	return string([]byte{byte(kind), byte(trader)}) + wide(amount)
}

func orders(trader, side, price int) string {
	return string([]byte{api.Order, byte(trader), byte(side), byte(price >> 8), byte(price)})
}

// asks: a request with a trader and nothing more.
func asks(kind, trader int) string { return string([]byte{byte(kind), byte(trader)}) }

const askBatch, askClearing = "\x08", "\x0a"

func record(time int, request string) string {
	return code(byte(len(request))) + wide(time) + request + "\xa5"
}

func open(t *testing.T, period, batch int) *sealbid.Exchange {
	t.Helper()
	x, e := sealbid.Open(api.Config{Period: period, Batch: batch}, "")
	if x == nil || e != api.OK {
		t.Fatalf("P4: Open(%d, %d) = %v, %d", period, batch, x, e)
	}
	return x
}

func answer(t *testing.T, x *sealbid.Exchange, now int, request string) string {
	t.Helper()
	s, e := x.Do(now, request)
	if e != api.OK || s == "" {
		t.Fatalf("P5: Do(%d, %x) = %x, %d", now, request, s, e)
	}
	return s
}

func expect(t *testing.T, x *sealbid.Exchange, now int, request, want string) {
	t.Helper()
	if s := answer(t, x, now, request); s != want {
		t.Errorf("P5: Do(%d, %x) = %x, want %x", now, request, s, want)
	}
}

// expectAll: each request's response is Done, and nothing is looked at but that.
func expectAll(t *testing.T, x *sealbid.Exchange, now int, requests ...string) {
	t.Helper()
	for _, r := range requests {
		if s := answer(t, x, now, r); s[0] != api.Done {
			t.Fatalf("P5: Do(%d, %x) = %x", now, r, s)
		}
	}
}

func journalOf(t *testing.T, x *sealbid.Exchange) string {
	t.Helper()
	s, e := x.Journal()
	if e != api.OK {
		t.Fatalf("P7: Journal: %d", e)
	}
	return s
}

// view: all that can be asked of an exchange at this time.
func view(t *testing.T, x *sealbid.Exchange, now int) string {
	t.Helper()
	var b strings.Builder
	for trader := range api.MaxTraders {
		b.WriteString(answer(t, x, now, asks(api.Account, trader)))
		b.WriteString(answer(t, x, now, asks(api.Result, trader)))
	}
	b.WriteString(answer(t, x, now, askBatch))
	b.WriteString(answer(t, x, now, askClearing))
	return b.String() + journalOf(t, x)
}

func TestP1NilExchange(t *testing.T) {
	var x *sealbid.Exchange
	for _, now := range []int{math.MinInt, -1, 0, 1, math.MaxInt} {
		for _, r := range []string{"", "\xff", askBatch, moves(api.PutCash, 0, 5)} {
			if s, e := x.Do(now, r); s != "" || e != api.ErrNil {
				t.Errorf("P1: Do(%d, %x) of nil = %x, %d", now, r, s, e)
			}
		}
	}
	if s, e := x.Journal(); s != "" || e != api.ErrNil {
		t.Errorf("P1: Journal of nil = %x, %d", s, e)
	}
}

func TestP1AllClocksAndBytes(t *testing.T) {
	long := strings.Repeat("\x01", 1<<20)
	requests := []string{"", long, long[:255], long[:256], long[:11], askBatch + long}
	for a := range 256 {
		requests = append(requests, code(byte(a)))
		for b := range 256 {
			requests = append(requests, string([]byte{byte(a), byte(b)}))
		}
	}
	for n := range 20 {
		for kind := range 12 {
			for _, fill := range []string{"\x00", "\x01", "\x13", "\x7f", "\x80", "\xff"} {
				requests = append(requests, code(byte(kind))+strings.Repeat(fill, n))
			}
		}
	}
	clocks := []int{math.MinInt, math.MinInt + 1, -1, 0, 1, 9, 10, 11, 1 << 49, api.MaxTime - 1, api.MaxTime, api.MaxTime + 1, math.MaxInt}
	for _, period := range []int{1, 10, api.MaxTime} {
		x := open(t, period, 20)
		for _, now := range clocks {
			for _, r := range requests {
				if s := answer(t, x, now, r); s[0] > api.Nothing || s[0] != api.Done && len(s) != 1 {
					t.Fatalf("P1: Do(%d, %.20x) = %x", now, r, s)
				}
			}
		}
		journalOf(t, x)
	}
}

func TestP2ExchangesSideBySide(t *testing.T) {
	settings := []api.Config{{Period: 10, Batch: 5}, {Period: 10, Batch: 5}, {Period: 3, Batch: 20}, {Period: 1000, Batch: 1}}
	var scripts [][]step
	var together []*sealbid.Exchange
	for i, c := range settings {
		scripts = append(scripts, script(uint64(i), 400))
		together = append(together, open(t, c.Period, c.Batch))
	}
	answers := make([]string, len(settings))
	for n := range 400 {
		for i, x := range together {
			answers[i] += answer(t, x, scripts[i][n].now, scripts[i][n].request)
		}
	}
	for i, c := range settings {
		alone, s := open(t, c.Period, c.Batch), ""
		for _, p := range scripts[i] {
			s += answer(t, alone, p.now, p.request)
		}
		if s != answers[i] || journalOf(t, alone) != journalOf(t, together[i]) || view(t, alone, 0) != view(t, together[i], 0) {
			t.Errorf("P2: exchange %d hangs on the others", i)
		}
	}
}

func TestP2JournalIsNotTurnedLater(t *testing.T) {
	x := open(t, 5, 5)
	told, kept := []string{}, []string{}
	for i, p := range script(3, 300) {
		answer(t, x, p.now, p.request)
		if i%10 == 0 {
			s := journalOf(t, x)
			told, kept = append(told, s), append(kept, strings.Clone(s))
		}
	}
	for i := range told {
		if told[i] != kept[i] {
			t.Errorf("P2: a journal that was told has changed")
		}
	}
}

// TestP4Config: what is refused, and the outermost settings that are not.
func TestP4Config(t *testing.T) {
	const low, high = math.MinInt, math.MaxInt
	for _, c := range []api.Config{
		{}, {Period: 0, Batch: 1}, {Period: -1, Batch: 1}, {Period: low, Batch: 1}, {Period: api.MaxTime + 1, Batch: 1}, {Period: high, Batch: 1},
		{Period: 1, Batch: 0}, {Period: 1, Batch: -1}, {Period: 1, Batch: low}, {Period: 1, Batch: api.MaxBatch + 1}, {Period: 1, Batch: high},
	} {
		for _, j := range []string{"", "\xff", record(0, moves(api.PutCash, 0, 5))} {
			if x, e := sealbid.Open(c, j); x != nil || e != api.ErrConfig {
				t.Errorf("P4: Open(%v, %x) = %v, %d", c, j, x, e)
			}
		}
	}
	for _, period := range []int{1, 2, api.MaxTime - 1, api.MaxTime} {
		for _, batch := range []int{1, 2, api.MaxBatch - 1, api.MaxBatch} {
			open(t, period, batch)
		}
	}
}

func TestP4NothingDoneYet(t *testing.T) {
	x := open(t, 10, 5)
	if s := journalOf(t, x); s != "" {
		t.Errorf("P4: the journal is %x", s)
	}
	expect(t, x, -1, askBatch, done+"\x00\x00\x00\x01"+wide(10)+"\x00")
	expect(t, x, 0, askClearing, done+"\x00\x00\x00\x00"+"\x00\x00"+"\x00\x00\x00\x00"+wide(0)+wide(int(math.Float64bits(1))))
	for trader := range api.MaxTraders {
		expect(t, x, 0, asks(api.Account, trader), done+wide(0, 0, 0, 0))
		expect(t, x, 0, asks(api.Result, trader), done+"\x00\x00\x00")
		expect(t, x, 0, asks(api.Cancel, trader), code(api.Nothing))
	}
}
