// Package journal writes the records of a journal, and reads them.
package journal

import "sealbid/numbers"

// end stands behind each record: without it a record is not whole.
const end = 165

// head is how many bytes stand ahead of a record's request: how long that is, and the time.
const head = 1 + 8

// Record is what was done at a time.
type Record struct {
	Time    uint64 // any eight bytes: an int could not hold them all
	Request string
}

// IsClearing: no request is empty, so an empty one is free to tell this.
func (r Record) IsClearing() bool { return r.Request == "" }

// Append puts a record behind j; a clearing's has an empty request.
func Append(j []byte, time int, request string) []byte {
	j = append(j, byte(len(request)))
	j = numbers.Append(j, uint64(time), 8)
	j = append(j, request...)
	return append(j, end)
}

// Next takes the first record off j. It is whole only if all its bytes are there, and the last one is the end's.
func Next(j string) (r Record, rest string, whole bool) {
	if j == "" {
		return Record{}, "", false
	}
	last := head + int(j[0])
	if last >= len(j) || j[last] != end {
		return Record{}, "", false
	}
	return Record{Time: numbers.Read(j[1:head]), Request: j[head:last]}, j[last+1:], true
}
