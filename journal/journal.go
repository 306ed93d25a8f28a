// Package journal writes the records of a journal.
package journal

import "sealbid/numbers"

// end stands behind each record: without it a record is not whole.
const end = 165

// Append puts a record behind j; a clearing's has an empty request.
func Append(j []byte, time int, request string) []byte {
	j = append(j, byte(len(request)))
	j = numbers.Append(j, uint64(time), 8)
	j = append(j, request...)
	return append(j, end)
}
