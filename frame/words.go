package frame

import "strings"

const (
	wordSize = 4            // the bytes of a length, and of a check
	headSize = 2 * wordSize // what stands in front of a record
)

// layWord lays a number by four bytes, the highest first.
func layWord(to *strings.Builder, n uint32) {
	to.Write([]byte{byte(n >> 24), byte(n >> 16), byte(n >> 8), byte(n)})
}

// takeWord is the number that the first four bytes of s tell; there are as many.
func takeWord(s string) uint32 {
	return uint32(s[0])<<24 | uint32(s[1])<<16 | uint32(s[2])<<8 | uint32(s[3])
}
