package market

import (
	"sealbid/api"
	"sealbid/journal"
	"sealbid/request"
)

// Open makes a market that did what the records of the journal tell, up to the first one that it could not have written itself.
func Open(c api.Config, text string) *Market {
	m := begin(c)
	for {
		r, rest, whole := journal.Next(text)
		if !whole || !m.repeat(r) {
			return m
		}
		text = rest
	}
}

// repeat does what a record tells, and writes it again. If this market could not have written it behind what it has, it does nothing, and answers false.
func (m *Market) repeat(r journal.Record) bool {
	if r.Time < uint64(m.time) || r.Time > api.MaxTime {
		return false
	}
	now := int(r.Time)
	// What comes at the end of a batch or behind it is written behind the clearing.
	if r.IsClearing() != (now >= m.batch.end) {
		return false
	}
	if !r.IsClearing() {
		return m.repeatRequest(now, r.Request)
	}
	m.time = now
	m.clearBatch()
	return true
}

func (m *Market) repeatRequest(now int, text string) bool {
	r, code := request.Read(text)
	if code != api.Done || !changes(r.Kind) {
		return false
	}
	if code, _ = m.deeds[r.Kind](r); code != api.Done {
		return false
	}
	// Only now: a record that is not accepted must leave the time as it was.
	m.time = now
	m.write(text)
	return true
}
