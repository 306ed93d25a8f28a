package sealbid_test

import (
	"math"
	"strings"
	"testing"
	"unsafe"

	"sealbid/api"
	"sealbid/sealbid"
)

func reopen(t *testing.T, c api.Config, journal string) *sealbid.Exchange {
	t.Helper()
	x, e := sealbid.Open(c, journal)
	if x == nil || e != api.OK {
		t.Fatalf("P4: Open(%v, %x) = %v, %d", c, journal, x, e)
	}
	return x
}

// split: the records of a journal that an exchange told.
func split(journal string) []string {
	var list []string
	for journal != "" {
		n := int(journal[0]) + 10
		list = append(list, journal[:n])
		journal = journal[n:]
	}
	return list
}

// wholeIn: how many of the first n bytes are whole records.
func wholeIn(records []string, n int) int {
	whole := 0
	for _, r := range records {
		if whole+len(r) > n {
			break
		}
		whole += len(r)
	}
	return whole
}

// settings are those of the journal that written tells.
var settings = api.Config{Period: 10, Batch: 3}

// written: a journal that has each kind of record, and clearings with and without trade; the last record's time is 31.
func written(t *testing.T) string {
	t.Helper()
	list := []step{
		{0, moves(api.PutCash, 0, 1000)}, {0, moves(api.PutUnits, 1, 3)}, {2, orders(0, api.Buy, 600)}, {3, orders(1, api.Sell, 400)},
		{4, moves(api.PutUnits, 2, 1)}, {4, orders(2, api.Sell, 900)}, {11, moves(api.TakeCash, 0, 100)}, {12, orders(0, api.Buy, 9)},
		{13, asks(api.Cancel, 0)}, {30, moves(api.TakeUnits, 1, 1)}, {31, orders(1, api.Sell, 5)},
	}
	x := open(t, settings.Period, settings.Batch)
	want := ""
	for _, s := range list {
		expectAll(t, x, s.now, s.request)
		if s.now == 11 || s.now == 30 {
			want += record(s.now, "")
		}
		want += record(s.now, s.request)
	}
	if s := journalOf(t, x); s != want {
		t.Fatalf("P7: the journal is %x, want %x", s, want)
	}
	return want
}

// isAs: x tells all that an exchange opened of just this journal tells, and has the time of its last record.
func isAs(t *testing.T, x *sealbid.Exchange, c api.Config, journal string) {
	t.Helper()
	y := reopen(t, c, journal)
	if s := journalOf(t, x); s != journal || journalOf(t, y) != journal {
		t.Fatalf("P4: the journal is %x, want %x", s, journal)
	}
	if view(t, x, math.MinInt) != view(t, y, math.MinInt) {
		t.Fatalf("P4: it is not as behind %x", journal)
	}
	last, records := 0, split(journal)
	if n := len(records); n > 0 {
		last = readTime(records[n-1])
	}
	timeIs(t, x, last)
}

func readTime(record string) int {
	n := 0
	for _, b := range []byte(record[1:9]) {
		n = n<<8 | int(b)
	}
	return n
}

// timeIs: the time is seen in the next record; so this changes the exchange.
func timeIs(t *testing.T, x *sealbid.Exchange, want int) {
	t.Helper()
	before := journalOf(t, x)
	list := []string{moves(api.PutUnits, 7, 1)}
	for trader := range api.MaxTraders {
		list = append(list, moves(api.TakeUnits, trader, 1)) // one has some, if no more may be put in
	}
	for _, r := range list {
		if answer(t, x, math.MinInt, r) != done {
			continue
		}
		if s := journalOf(t, x); s != before+record(want, r) {
			t.Fatalf("P4: the next record is %x: its time is not %d", s[len(before):], want)
		}
		return
	}
	t.Fatal("P4: nothing can be put in nor taken out")
}

func TestP4WholeJournal(t *testing.T) {
	all := written(t)
	x := reopen(t, settings, all)
	for range 2 {
		if s := journalOf(t, x); s != all {
			t.Errorf("P7: the journal is %x, want %x", s, all)
		}
	}
	expect(t, x, 0, asks(api.Account, 0), done+wide(450, 0, 1, 0))
	expect(t, x, 0, asks(api.Account, 1), done+wide(450, 0, 0, 1))
	expect(t, x, 0, asks(api.Account, 2), done+wide(0, 0, 1, 0))
	expect(t, x, 0, askBatch, done+number(3)+wide(40)+"\x01")
	expect(t, x, 0, askClearing, done+number(2)+"\x00\x00"+"\x00\x00\x00\x00"+wide(0)+wide(int(math.Float64bits(1))))
	expect(t, x, 0, orders(1, api.Sell, 6), code(api.Live))
	expect(t, x, 0, orders(0, api.Buy, 451), code(api.Short))
	expect(t, x, 0, orders(0, api.Buy, 450), done+"\x02")
	if s, want := journalOf(t, x), all+record(31, orders(0, api.Buy, 450)); s != want {
		t.Errorf("P7: the journal is %x, want %x", s, want)
	}
	expect(t, x, 40, asks(api.Result, 1), done+"\x00\x00\x00")
	if s, want := journalOf(t, x), all+record(31, orders(0, api.Buy, 450))+record(40, ""); s != want {
		t.Errorf("P7: the journal is %x, want %x", s, want)
	}
}

// TestP4LastClearing: what is told of a clearing comes again too.
func TestP4LastClearing(t *testing.T) {
	j := record(0, moves(api.PutCash, 3, 9)) + record(0, moves(api.PutCash, 4, 8)) + record(0, moves(api.PutUnits, 5, 1)) + record(0, moves(api.PutUnits, 6, 1)) +
		record(1, orders(3, api.Buy, 9)) + record(1, orders(4, api.Buy, 8)) + record(1, orders(5, api.Sell, 3)) + record(1, orders(6, api.Sell, 7)) + record(10, "")
	x := reopen(t, api.Config{Period: 10, Batch: 4}, j)
	expect(t, x, 0, askClearing, done+number(1)+"\x02\x01"+"\x00\x08\x00\x07"+wide(1)+"\x3f\xeb\x6d\xb6\xdb\x6d\xb6\xdb")
	expect(t, x, 0, asks(api.Result, 3), done+"\x01\x00\x08")
	expect(t, x, 0, asks(api.Result, 4), done+"\x00\x00\x00")
	expect(t, x, 0, asks(api.Result, 5), done+"\x01\x00\x07")
	expect(t, x, 0, asks(api.Account, 3), done+wide(1, 0, 1, 0))
	// The exchange's own cash counts: 17 are in.
	expect(t, x, 0, moves(api.PutCash, 0, api.MaxSum-16), code(api.Sum))
	expect(t, x, 0, moves(api.PutCash, 0, api.MaxSum-17), done)
}

func TestP4ConfigWhateverTheJournal(t *testing.T) {
	all := written(t)
	for _, c := range []api.Config{{}, {Period: 0, Batch: 3}, {Period: api.MaxTime + 1, Batch: 3}, {Period: math.MinInt, Batch: 3}, {Period: 10, Batch: 0}, {Period: 10, Batch: 21}, {Period: math.MaxInt, Batch: math.MaxInt}} {
		for i := range len(all) + 1 {
			for _, j := range []string{all[:i], all[i:], strings.Repeat("\xff", i)} {
				if x, e := sealbid.Open(c, j); x != nil || e != api.ErrConfig {
					t.Fatalf("P4: Open(%v, %x) = %v, %d", c, j, x, e)
				}
			}
		}
	}
}

// TestP12CutAnywhere: cut at every byte, it is as behind the whole records, and goes on from there as the first one did.
func TestP12CutAnywhere(t *testing.T) {
	all := written(t)
	records := split(all)
	for i := range len(all) + 1 {
		whole := wholeIn(records, i)
		isAs(t, reopen(t, settings, all[:i]), settings, all[:whole])
		x := reopen(t, settings, all[:i])
		for _, r := range split(all[whole:]) {
			request := r[9 : len(r)-1]
			if request == "" {
				request = askBatch // the reading alone clears
			}
			expectAll(t, x, readTime(r), request)
		}
		isAs(t, x, settings, all)
	}
}

// impossible: a record that can't stand behind those ahead.
type impossible struct {
	name, ahead, record string
}

// atOnce: records that no exchange could have written first of all. (Of those with a wrong length, one is whole if an end stands behind it: its request is not.)
func atOnce() []impossible {
	put := record(0, moves(api.PutCash, 0, 5))
	list := []impossible{
		{"no end", "", put[:19] + "\xa4"}, {"no end of a clearing", "", record(10, "")[:9] + "\x5a"}, {"an end of 0", "", put[:19] + "\x00"},
		{"too short a length", "", "\x09" + put[1:]}, {"too great a length", "", "\x0b" + put[1:]}, {"length of a clearing", "", "\x00" + put[1:]}, {"greatest length", "", "\xff" + put[1:]},
		{"time above MaxTime", "", record(api.MaxTime+1, "")}, {"greatest int", "", record(math.MaxInt, "")}, {"above any int", "", record(math.MinInt, "")}, {"greatest time", "", record(-1, "")},
		{"request above MaxTime", "", record(api.MaxTime+1, moves(api.PutCash, 0, 5))}, {"request above any int", "", record(math.MinInt, moves(api.PutCash, 0, 5))}, {"request at the greatest time", "", record(-1, moves(api.PutCash, 0, 5))},
		{"clearing at once", "", record(0, "")}, {"clearing ahead of the end", "", record(9, "")},
		{"request at the end", "", record(10, moves(api.PutCash, 0, 5))}, {"request behind the end", "", record(11, moves(api.PutCash, 0, 5))}, {"request at MaxTime", "", record(api.MaxTime, moves(api.PutCash, 0, 5))},
		{"account", "", record(0, asks(api.Account, 0))}, {"batch", "", record(0, askBatch)}, {"result", "", record(0, asks(api.Result, 0))}, {"asks for a clearing", "", record(0, askClearing)},
		{"kind 0", "", record(0, "\x00")}, {"kind 0, long", "", record(0, moves(0, 0, 5))}, {"kind 11", "", record(0, "\x0b")}, {"kind 11, long", "", record(0, moves(11, 0, 5))}, {"kind 255", "", record(0, asks(255, 0))},
		{"put cut", "", record(0, moves(api.PutCash, 0, 5)[:9])}, {"put longer", "", record(0, moves(api.PutCash, 0, 5)+"\x00")}, {"order cut", "", record(0, orders(0, 1, 5)[:4])}, {"cancel longer", "", record(0, asks(api.Cancel, 0)+"\x00")},
		{"longest request", "", record(0, strings.Repeat("\x01", 255))},
		{"trader", "", record(0, moves(api.PutCash, 20, 5))}, {"put 0", "", record(0, moves(api.PutCash, 0, 0))}, {"put 0 units", "", record(0, moves(api.PutUnits, 0, 0))},
		{"sum", "", record(0, moves(api.PutCash, 0, api.MaxSum+1))}, {"sum of units", "", record(0, moves(api.PutUnits, 0, api.MaxSum+1))}, {"greatest amount", "", record(0, moves(api.PutCash, 0, -1))},
		{"takes cash", "", record(0, moves(api.TakeCash, 0, 1))}, {"takes units", "", record(0, moves(api.TakeUnits, 0, 1))}, {"takes 0", "", record(0, moves(api.TakeCash, 0, 0))},
		{"buys", "", record(0, orders(0, api.Buy, 1))}, {"sells", "", record(0, orders(0, api.Sell, 1))}, {"cancels", "", record(0, asks(api.Cancel, 0))},
	}
	for i := range list {
		list[i].name = "first: " + list[i].name
	}
	return list
}

// behindSome: records that would stand well elsewhere.
func behindSome() []impossible {
	unit := record(5, moves(api.PutUnits, 1, 1))
	rich := record(3, moves(api.PutCash, 0, 100)) + record(3, moves(api.PutUnits, 1, 2)) + record(3, moves(api.PutUnits, 2, 2)) + record(3, moves(api.PutUnits, 3, 2))
	full := rich + record(4, orders(0, api.Buy, 90)) + record(4, orders(1, api.Sell, 90)) + record(4, orders(2, api.Sell, 95))
	return []impossible{
		{"time back", unit, record(4, moves(api.PutUnits, 1, 1))}, {"time back to 0", unit, record(0, moves(api.PutUnits, 1, 1))},
		{"time back behind a clearing", record(12, ""), record(11, moves(api.PutUnits, 1, 1))}, {"time back into the last batch", unit + record(12, ""), record(5, moves(api.PutUnits, 1, 1))},
		{"the clearing again", record(10, ""), record(10, "")}, {"the next clearing too early", record(12, ""), record(21, "")},
		{"the next end counts from the clearing", record(12, ""), record(20, "")}, {"request at the next end", record(12, ""), record(22, moves(api.PutUnits, 1, 1))},
		{"a second clearing at MaxTime", record(api.MaxTime, ""), record(api.MaxTime, "")}, {"behind MaxTime", record(api.MaxTime, ""), record(api.MaxTime+10, "")},
		{"clearing above MaxTime, behind some", unit, record(api.MaxTime+1, "")},
		{"no cash", unit, record(5, orders(1, api.Buy, 5))}, {"no unit", unit, record(5, orders(0, api.Sell, 5))}, {"price 0", unit, record(5, orders(1, api.Sell, 0))}, {"price 1000", unit, record(5, orders(1, api.Sell, 1000))}, {"side 2", unit, record(5, orders(1, 2, 5))},
		{"live", rich + record(4, orders(1, api.Sell, 9)), record(4, orders(1, api.Sell, 9))}, {"full", full, record(4, orders(3, api.Sell, 1))},
		{"held cash", full, record(4, moves(api.TakeCash, 0, 11))}, {"held unit", full, record(4, moves(api.TakeUnits, 1, 2))}, {"no order to cancel", full, record(4, asks(api.Cancel, 3))},
		{"cancel of an order that was cleared", full + record(10, ""), record(10, asks(api.Cancel, 0))},
		{"sum of all", rich, record(9, moves(api.PutCash, 9, api.MaxSum-99))}, {"sum of all units", rich, record(9, moves(api.PutUnits, 9, api.MaxSum-5))},
		{"refused at a later time", full, record(9, orders(0, api.Buy, 1))}, {"question at a later time", full, record(9, asks(api.Account, 0))},
	}
}

// tails are what may stand behind a record that stops the reading.
func tails(t *testing.T) []string {
	return []string{
		"", "\x00", "\xa5", "\xff", strings.Repeat("\xff", 600), strings.Repeat("\x00", 600), "not a journal at all",
		record(5, moves(api.PutUnits, 1, 1)), record(9, moves(api.PutCash, 0, 1)), record(10, ""), record(30, ""), record(api.MaxTime, "") + record(api.MaxTime, moves(api.PutCash, 0, 1)), written(t),
	}
}

func TestP4ImpossibleRecords(t *testing.T) {
	for _, p := range append(atOnce(), behindSome()...) {
		for i, tail := range tails(t) {
			x := reopen(t, settings, p.ahead+p.record+tail)
			if s := journalOf(t, x); s != p.ahead {
				t.Fatalf("P4: %s, tail %d: of %x are read %x", p.name, i, p.ahead+p.record, s)
			}
			isAs(t, x, settings, p.ahead)
		}
	}
}

// TestP4JustPossible: what stands right beside the impossible ones is accepted.
func TestP4JustPossible(t *testing.T) {
	unit := moves(api.PutUnits, 1, 1)
	rich := record(3, moves(api.PutCash, 0, 100)) + record(3, moves(api.PutUnits, 1, 2)) + record(3, moves(api.PutUnits, 2, 2)) + record(3, moves(api.PutUnits, 3, 2))
	for _, j := range []string{
		record(0, unit), record(9, unit), record(10, ""), record(11, ""), record(api.MaxTime, ""), record(10, "") + record(10, unit), record(10, "") + record(19, unit), record(10, "") + record(20, ""),
		record(12, "") + record(22, ""), record(12, "") + record(21, unit), record(5, unit) + record(5, unit), record(api.MaxTime-10, "") + record(api.MaxTime, "") + record(api.MaxTime, unit),
		record(0, moves(api.PutCash, 0, api.MaxSum)) + record(0, moves(api.PutUnits, 19, api.MaxSum)),
		rich + record(9, moves(api.PutCash, 9, api.MaxSum-100)) + record(9, moves(api.PutUnits, 9, api.MaxSum-6)),
		rich + record(4, orders(0, api.Buy, 100)) + record(4, orders(1, api.Sell, 999)) + record(4, orders(2, api.Sell, 1)) + record(4, moves(api.TakeUnits, 1, 1)) + record(4, asks(api.Cancel, 0)) + record(4, orders(3, api.Sell, 9)),
	} {
		x := reopen(t, settings, j)
		if s := journalOf(t, x); s != j {
			t.Fatalf("P4: of %x are read %x", j, s)
		}
		isAs(t, x, settings, j)
	}
}

// TestP4OtherSettings: a journal is read as far as these settings could have written it.
func TestP4OtherSettings(t *testing.T) {
	all := written(t)
	records := split(all)
	for _, p := range []struct {
		c    api.Config
		read int
	}{
		{api.Config{Period: 10, Batch: 3}, len(records)}, {api.Config{Period: 10, Batch: 20}, len(records)}, {api.Config{Period: 11, Batch: 3}, len(records)},
		{api.Config{Period: 10, Batch: 2}, 5}, {api.Config{Period: 10, Batch: 1}, 3}, // the order that the batch has no room for
		{api.Config{Period: 12, Batch: 3}, 6}, {api.Config{Period: api.MaxTime, Batch: 3}, 6}, // no clearing yet
		{api.Config{Period: 4, Batch: 3}, 4}, {api.Config{Period: 3, Batch: 3}, 3}, {api.Config{Period: 1, Batch: 3}, 2}, // a clearing is missing
		{api.Config{Period: 5, Batch: 3}, len(records)}, // its second batch ends at 16
	} {
		x := reopen(t, p.c, all)
		want := strings.Join(records[:p.read], "")
		if s := journalOf(t, x); s != want {
			t.Errorf("P4: with %v are read %x, want %x", p.c, s, want)
		}
		isAs(t, x, p.c, want)
	}
}

func TestP4NothingLikeAJournal(t *testing.T) {
	junk := []string{"journal", strings.Repeat("\xa5", 1<<16), strings.Repeat("\xff", 1<<20), strings.Repeat("\x00", 1<<20), strings.Repeat("\x01", 1000), "\x00\x00\x00\x00\x00\x00\x00\x00\x00", "{}\n", "é世"}
	for a := range 256 {
		junk = append(junk, code(byte(a)))
		for b := range 256 {
			junk = append(junk, string([]byte{byte(a), byte(b)}))
		}
		for n := range 40 {
			junk = append(junk, strings.Repeat(code(byte(a)), n), code(byte(a))+strings.Repeat("\x00", n)+"\xa5", code(byte(n))+strings.Repeat(code(byte(a)), n+8)+"\xa4")
		}
	}
	for _, j := range junk {
		x := reopen(t, settings, j)
		if s := journalOf(t, x); s != "" {
			t.Fatalf("P4: of %.20x are read %x", j, s)
		}
		batchIs(t, x, math.MinInt, 1, 10)
	}
}

// TestP4Time: the time is that of the last record, whichever it is, and not that of one that was not accepted.
func TestP4Time(t *testing.T) {
	unit := moves(api.PutUnits, 1, 1)
	for _, p := range []struct {
		journal string
		time    int
	}{
		{"", 0}, {record(0, unit), 0}, {record(1, unit), 1}, {record(9, unit), 9}, {record(1, unit) + record(7, unit), 7}, {record(10, ""), 10}, {record(500, ""), 500}, {record(500, "") + record(509, unit), 509},
		{record(api.MaxTime, ""), api.MaxTime}, {record(api.MaxTime, "") + record(api.MaxTime, unit), api.MaxTime},
		{record(1, unit) + record(7, unit)[:19], 1}, {record(1, unit) + record(7, asks(api.Account, 1)), 1}, {record(1, unit) + record(7, asks(api.Cancel, 1)), 1}, {record(1, unit) + record(9, ""), 1}, {record(1, unit) + record(10, unit), 1}, {record(1, unit) + record(api.MaxTime+1, ""), 1},
	} {
		timeIs(t, reopen(t, settings, p.journal), p.time)
	}
}

// TestP4LongJournal: the reading goes on to the end, however long it is.
func TestP4LongJournal(t *testing.T) {
	var b strings.Builder
	for i := range 20000 {
		b.WriteString(record(i*2, moves(api.PutCash, i%20, 1+i)))
		b.WriteString(record(i*2+2, ""))
	}
	x := reopen(t, api.Config{Period: 1, Batch: 1}, "")
	if journalOf(t, x) != "" {
		t.Error("P4: something was read of nothing")
	}
	x = reopen(t, api.Config{Period: 2, Batch: 1}, b.String())
	if s := journalOf(t, x); s != b.String() {
		t.Errorf("P4: %d bytes of %d are read", len(s), b.Len())
	}
	batchIs(t, x, 0, 20001, 40002)
}

// TestP2JournalIsNotKept: the bytes that the string stood in are written over behind Open.
func TestP2JournalIsNotKept(t *testing.T) {
	all := written(t)
	for _, j := range []string{all, all[:len(all)-1], all + record(5, "")} {
		bytes := []byte(j)
		x := reopen(t, settings, unsafe.String(&bytes[0], len(bytes)))
		if string(bytes) != j {
			t.Fatal("P2: the journal that was handed in has changed")
		}
		for i := range bytes {
			bytes[i] = 0xee
		}
		isAs(t, x, settings, all[:wholeIn(split(all), len(j))])
	}
}

// TestP2OpenedOfOneJournal: what one of them does is nothing to the others.
func TestP2OpenedOfOneJournal(t *testing.T) {
	all := written(t)
	first := reopen(t, settings, all)
	before := view(t, first, 0)
	var list []*sealbid.Exchange
	for range 3 {
		list = append(list, reopen(t, settings, all))
	}
	for seed, x := range list {
		for _, s := range script(uint64(seed), 200) {
			answer(t, x, s.now+31, s.request)
		}
		if view(t, first, 0) != before {
			t.Fatalf("P2: exchange %d has changed the first one", seed)
		}
	}
	for seed, x := range list {
		alone := reopen(t, settings, all)
		for _, s := range script(uint64(seed), 200) {
			answer(t, alone, s.now+31, s.request)
		}
		if view(t, alone, 0) != view(t, x, 0) {
			t.Fatalf("P2: exchange %d hangs on the others", seed)
		}
	}
	isAs(t, reopen(t, settings, all), settings, all)
}

// TestP6Opened: an exchange that was opened of a journal refuses as the first one did, and nothing changes.
func TestP6Opened(t *testing.T) {
	j := journalOf(t, full(t))
	for _, r := range refused {
		x := reopen(t, api.Config{Period: 10, Batch: 2}, j)
		before := view(t, x, 3)
		if s := answer(t, x, 3, r); s != answer(t, full(t), 3, r) || s[0] == api.Done {
			t.Errorf("P6: Do(3, %x) = %x", r, s)
		}
		if view(t, x, 3) != before {
			t.Fatalf("P6: %x was refused, but has changed something", r)
		}
	}
}

// TestP11Opened: all that is read counts as put in or taken out, and nothing else does.
func TestP11Opened(t *testing.T) {
	all := written(t)
	for _, p := range []struct{ records, cash, units int }{{0, 0, 0}, {1, 1000, 0}, {2, 1000, 3}, {5, 1000, 4}, {7, 1000, 4}, {8, 900, 4}, {11, 900, 4}, {12, 900, 3}, {13, 900, 3}} {
		x := reopen(t, settings, strings.Join(split(all)[:p.records], ""))
		if cash, units := sums(t, x); cash != p.cash || units != p.units {
			t.Errorf("P11: behind %d records there are %d and %d, want %d and %d", p.records, cash, units, p.cash, p.units)
		}
	}
}
