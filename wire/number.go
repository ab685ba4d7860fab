package wire

// By how many bytes a number is laid.
const (
	byteSize   = 1 // an E, a Kind, a member, a currency
	countSize  = 2
	idSize     = 4
	amountSize = 8
)

const (
	mostByte = 1<<8 - 1
	mostId   = 1<<31 - 1
)

// whole is what numbers and amounts are of.
type whole interface {
	~int | ~int64
}

// lay lays the last size bytes of a number behind b, the highest first.
func lay[N whole](b []byte, n N, size int) []byte {
	for at := size - 1; at >= 0; at-- {
		b = append(b, byte(n>>(8*at)))
	}
	return b
}

// take takes a number of size bytes from the front of s, which has as many, and tells what is behind them.
func take[N whole](s string, size int) (N, string) {
	var n N
	for at := range size {
		n = n<<8 | N(s[at])
	}
	return n, s[size:]
}

func isId(n int) bool {
	return n >= 0 && n <= mostId
}
