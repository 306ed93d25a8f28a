package sealbid_test

import (
	"slices"
	"strings"
	"testing"

	"sealbid/api"
)

// copyOf: another plain exchange as this one.
func (p *plain) copyOf() *plain {
	q := *p
	q.orders = slices.Clone(p.orders)
	return &q
}

// plainOpen takes a record only if an exchange that was asked for it then writes just these bytes.
func plainOpen(c api.Config, journal string) *plain {
	p := newPlain(c.Period, c.Batch)
	for journal != "" {
		n := int(journal[0]) + 10
		if n > len(journal) {
			break
		}
		q, request := p.copyOf(), journal[9:n-1]
		if request == "" {
			request = askBatch
		}
		q.do(readTime(journal), request)
		if q.journal != p.journal+journal[:n] {
			break
		}
		p, journal = q, journal[n:]
	}
	return p
}

// plainView is view of a plain exchange.
func plainView(p *plain) string {
	s := ""
	for trader := range api.MaxTraders {
		s += p.do(0, asks(api.Account, trader)) + p.do(0, asks(api.Result, trader))
	}
	return s + p.do(0, askBatch) + p.do(0, askClearing) + p.journal
}

// agree: opened of this journal, both are the same, have the same time, and have no more and no less than was put in.
func agree(t *testing.T, c api.Config, journal string) *plain {
	t.Helper()
	x, p := reopen(t, c, journal), plainOpen(c, journal)
	if s := journalOf(t, x); s != p.journal {
		t.Fatalf("P4: with %v of %x are read %x, want %x", c, journal, s, p.journal)
	}
	if view(t, x, 0) != plainView(p) {
		t.Fatalf("P4: with %v, of %x, it is not as the records tell", c, journal)
	}
	timeIs(t, x, p.time)
	return p
}

// TestP12Scripts: cut at every byte, it is as the document's words say.
func TestP12Scripts(t *testing.T) {
	for seed := range uint64(30) {
		c := chooser{state: seed}
		config := api.Config{Period: c.of(1, 2, 5, 10, 30, api.MaxTime-1, api.MaxTime), Batch: c.of(1, 3, 4, 6, 20)}
		x := open(t, config.Period, config.Batch)
		for _, s := range script(seed, 60) {
			answer(t, x, s.now, s.request)
		}
		all := journalOf(t, x)
		records := split(all)
		for i := range len(all) + 1 {
			if p, want := agree(t, config, all[:i]), all[:wholeIn(records, i)]; p.journal != want {
				t.Fatalf("P12: script %d: of the first %d bytes are read %x, want %x", seed, i, p.journal, want)
			}
		}
	}
}

// TestP12GoesOn: wherever an exchange has just written a record, one that is opened of its journal answers all that follows as the first one does.
func TestP12GoesOn(t *testing.T) {
	for seed := range uint64(30) {
		c := chooser{state: seed}
		config := api.Config{Period: c.of(1, 2, 5, 10, 30), Batch: c.of(1, 3, 4, 6, 20)}
		x := open(t, config.Period, config.Batch)
		steps := script(seed, 150)
		var answers, journals []string
		for _, s := range steps {
			answers, journals = append(answers, answer(t, x, s.now, s.request)), append(journals, journalOf(t, x))
		}
		last := ""
		for i := range steps {
			if journals[i] == last {
				continue // the time may have gone on, and nothing tells of it
			}
			last = journals[i]
			y := reopen(t, config, journals[i])
			for k := i + 1; k < len(steps); k++ {
				if s := answer(t, y, steps[k].now, steps[k].request); s != answers[k] {
					t.Fatalf("P12: script %d, opened behind step %d: step %d is %x, want %x", seed, i, k, s, answers[k])
				}
			}
			if journalOf(t, y) != journals[len(steps)-1] || view(t, y, 0) != view(t, x, 0) {
				t.Fatalf("P12: script %d, opened behind step %d: it ends otherwise", seed, i)
			}
		}
	}
}

// TestP4EachByteCounts: any byte of a journal may be another one.
func TestP4EachByteCounts(t *testing.T) {
	all := written(t)
	for i := range len(all) {
		for b := range 256 {
			agree(t, settings, all[:i]+code(byte(b))+all[i+1:])
		}
	}
}

// spoil puts a record or a byte in between, or leaves some records out, or tells some twice.
func (c *chooser) spoil(records []string) []string {
	at, time := c.below(len(records)+1), 0
	if at > 0 && len(records[at-1]) > 9 {
		time = max(readTime(records[at-1])+c.of(-1, 0, 0, 0, 1, 2, 10), 0)
	}
	switch c.below(5) {
	case 0, 1:
		return slices.Insert(records, at, record(time, c.request()))
	case 2:
		return slices.Insert(records, at, record(time, ""))
	case 3:
		return slices.Insert(records, at, code(byte(c.below(256))))
	}
	return slices.Concat(records[:at], records[c.below(len(records)+1):])
}

// TestP4Drawn: journals that are spoilt in some places, or in none.
func TestP4Drawn(t *testing.T) {
	read, stopped := 0, 0
	for seed := range uint64(2000) {
		c := chooser{state: seed}
		config := api.Config{Period: c.of(1, 2, 5, 10, 30, api.MaxTime-1, api.MaxTime), Batch: c.of(1, 3, 4, 6, 20)}
		p := newPlain(config.Period, config.Batch)
		for _, s := range script(seed, 40) {
			p.do(s.now, s.request)
		}
		records := split(p.journal)
		for range c.below(4) {
			records = c.spoil(records)
		}
		journal := strings.Join(records, "")
		if q := agree(t, config, journal); q.journal == journal {
			read++
		} else {
			stopped++
		}
	}
	if read < 300 || stopped < 300 {
		t.Errorf("of the journals %d are read whole, %d are not: too few of one", read, stopped)
	}
}
