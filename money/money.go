// Package money is layer 1: amounts of 64 bits, that tell when they are too great.
package money

import (
	"math"
	"math/bits"

	"nostro/api"
)

// Add tells the exact sum of a and b, or ErrOver if it is no amount.
func Add(a, b int64) (int64, api.Errno) {
	return widen(a).plus(widen(b)).amount()
}

// Sub tells the exact difference of a and b, or ErrOver if it is no amount.
func Sub(a, b int64) (int64, api.Errno) {
	return widen(a).minus(widen(b)).amount()
}

// Mul tells the exact product of a and b, or ErrOver if it is no amount.
func Mul(a, b int64) (int64, api.Errno) {
	return MulDiv(a, b, 1, false)
}

// MulDiv tells a times b by c, brought down, or up, to a whole number: ErrArg if c is below 1, ErrOver if
// what comes out is no amount.
func MulDiv(a, b, c int64, up bool) (int64, api.Errno) {
	if c < 1 {
		return 0, api.ErrArg
	}
	divisor := uint64(c)
	below := (a < 0) != (b < 0)
	dividend := product(magnitude(a), magnitude(b))
	if up != below {
		// Up above 0 and down below it both lead away from 0. Making the dividend greater ahead of the
		// division can't leave 128 bits, whereas one more on the quotient could leave 64.
		dividend = dividend.plus(wide{low: divisor - 1})
	}
	if dividend.high >= divisor {
		return 0, api.ErrOver
	}
	quotient, _ := bits.Div64(dividend.high, dividend.low, divisor)
	return signed(below, quotient)
}

// Sum tells the exact sum of all of l, or ErrOver if it is no amount, whatever sums on the way are.
func Sum(l []int64) (int64, api.Errno) {
	var total wide
	for _, a := range l {
		total = total.plus(widen(a))
	}
	return total.amount()
}

// Chain tells a and each of l, added one after the other, or ErrOver if a sum on the way is no amount.
func Chain(a int64, l []int64) (int64, api.Errno) {
	total := a
	for _, b := range l {
		next, err := Add(total, b)
		if err != api.OK {
			return 0, err
		}
		total = next
	}
	return total, api.OK
}

// Size tells a without its sign, or ErrOver if that is no amount.
func Size(a int64) (int64, api.Errno) {
	return signed(false, magnitude(a))
}

// magnitude is a without its sign; it has room for the least amount's too.
func magnitude(a int64) uint64 {
	if a < 0 {
		return -uint64(a)
	}
	return uint64(a)
}

// signed is the amount of that magnitude, below 0 or not, or ErrOver if there is none.
func signed(below bool, size uint64) (int64, api.Errno) {
	most := uint64(math.MaxInt64)
	if below {
		most++
	}
	if size > most {
		return 0, api.ErrOver
	}
	if below {
		return int64(-size), api.OK
	}
	return int64(size), api.OK
}
