package money

import (
	"math/bits"

	"nostro/api"
)

// wide is a whole number of 128 bits: sums take it with a sign (two's complement), products without one.
// Neither leaves it: a product of two magnitudes is at most 2^126, and a sum would need 2^64 amounts.
type wide struct {
	high, low uint64
}

// widen is an amount, with its sign drawn out over the high bits.
func widen(a int64) wide {
	return wide{high: uint64(a >> 63), low: uint64(a)}
}

func (w wide) plus(v wide) wide {
	low, carry := bits.Add64(w.low, v.low, 0)
	high, _ := bits.Add64(w.high, v.high, carry)
	return wide{high: high, low: low}
}

func (w wide) minus(v wide) wide {
	low, borrow := bits.Sub64(w.low, v.low, 0)
	high, _ := bits.Sub64(w.high, v.high, borrow)
	return wide{high: high, low: low}
}

// amount is w, taken with a sign, as an amount, or ErrOver if it is none.
func (w wide) amount() (int64, api.Errno) {
	a := int64(w.low)
	if widen(a) != w {
		return 0, api.ErrOver
	}
	return a, api.OK
}

// product is x times y: each is parted in two halves, so that none of the four products leaves 64 bits.
func product(x, y uint64) wide {
	xHigh, xLow := halves(x)
	yHigh, yLow := halves(y)
	parts := [4]wide{
		{low: xLow * yLow},
		halfUp(xLow * yHigh),
		halfUp(xHigh * yLow),
		{high: xHigh * yHigh},
	}
	var total wide
	for _, part := range parts {
		total = total.plus(part)
	}
	return total
}

const halfBits = 32

func halves(x uint64) (high, low uint64) {
	return x >> halfBits, x & (1<<halfBits - 1)
}

// halfUp is x times 2^32.
func halfUp(x uint64) wide {
	return wide{high: x >> halfBits, low: x << halfBits}
}
