// Package numbers writes numbers as bytes, the highest byte first, and reads them.
package numbers

// Append puts so many bytes of n behind b.
func Append(b []byte, n uint64, size int) []byte {
	for i := size - 1; i >= 0; i-- {
		b = append(b, byte(n>>(8*i)))
	}
	return b
}

// Read tells the number that all bytes of s are; of more than eight bytes, the last eight.
func Read(s string) uint64 {
	n := uint64(0)
	for i := range len(s) {
		n = n<<8 | uint64(s[i])
	}
	return n
}
