package money

import (
	"math"
	"math/big"
	"slices"
	"testing"

	"nostro/api"
)

const (
	most  = math.MaxInt64
	least = math.MinInt64
)

// edges are amounts about 0, about the halves that products are parted into, about roots of the greatest
// amount, and about both ends.
func edges() []int64 {
	l := []int64{least, most, 0}
	for _, a := range []int64{1, 2, 3, 7, 9999, 10000, 10001, 1 << 31, 1<<32 - 1, 1 << 32, 1<<32 + 1,
		3037000499, 3037000500, 1<<53 + 1, 1<<62 - 1, 1 << 62, 1<<62 + 1, most / 3, most - 1} {
		l = append(l, a, -a)
	}
	return append(l, -most)
}

// exact is what the document's exact number is as an answer.
func exact(n *big.Int) (int64, api.Errno) {
	if !n.IsInt64() {
		return 0, api.ErrOver
	}
	return n.Int64(), api.OK
}

func whole(a int64) *big.Int { return big.NewInt(a) }

// parted is a times b by c as the document tells it, by whole numbers of any size.
func parted(a, b, c int64, up bool) (int64, api.Errno) {
	quotient, rest := new(big.Int).DivMod(new(big.Int).Mul(whole(a), whole(b)), whole(c), new(big.Int))
	if up && rest.Sign() != 0 {
		quotient.Add(quotient, whole(1))
	}
	return exact(quotient)
}

type answer struct {
	n   int64
	err api.Errno
}

func told(n int64, err api.Errno) answer { return answer{n, err} }

var over = answer{0, api.ErrOver}

func TestAddSubMulAtTheEnds(t *testing.T) {
	for _, c := range []struct {
		a, b            int64
		sum, diff, prod answer
	}{
		{12, -5, answer{n: 7}, answer{n: 17}, answer{n: -60}},
		{most, 0, answer{n: most}, answer{n: most}, answer{n: 0}},
		{least, 0, answer{n: least}, answer{n: least}, answer{n: 0}},
		{most, 1, over, answer{n: most - 1}, answer{n: most}},
		{least, -1, over, answer{n: least + 1}, over},
		{least, 1, answer{n: least + 1}, over, answer{n: least}},
		{0, least, answer{n: least}, over, answer{n: 0}},
		{-1, least, over, answer{n: most}, over},
		{most, most, over, answer{n: 0}, over},
		{least, least, over, answer{n: 0}, over},
		{least, most, answer{n: -1}, over, over},
		{1 << 32, -1 << 31, answer{n: 1 << 31}, answer{n: 3 << 31}, answer{n: least}},
		{1 << 32, 1 << 31, answer{n: 3 << 31}, answer{n: 1 << 31}, over},
		{1 << 32, 1 << 32, answer{n: 1 << 33}, answer{n: 0}, over},
		{1 << 62, 4, answer{n: 1<<62 + 4}, answer{n: 1<<62 - 4}, over},
	} {
		if got := told(Add(c.a, c.b)); got != c.sum {
			t.Errorf("Add(%d, %d) = %v, not %v", c.a, c.b, got, c.sum)
		}
		if got := told(Sub(c.a, c.b)); got != c.diff {
			t.Errorf("Sub(%d, %d) = %v, not %v", c.a, c.b, got, c.diff)
		}
		if got := told(Mul(c.a, c.b)); got != c.prod {
			t.Errorf("Mul(%d, %d) = %v, not %v", c.a, c.b, got, c.prod)
		}
	}
}

func TestAddSubMulAreExact(t *testing.T) {
	for _, a := range edges() {
		for _, b := range edges() {
			if got, want := told(Add(a, b)), told(exact(new(big.Int).Add(whole(a), whole(b)))); got != want {
				t.Errorf("Add(%d, %d) = %v, not %v", a, b, got, want)
			}
			if got, want := told(Sub(a, b)), told(exact(new(big.Int).Sub(whole(a), whole(b)))); got != want {
				t.Errorf("Sub(%d, %d) = %v, not %v", a, b, got, want)
			}
			if got, want := told(Mul(a, b)), told(exact(new(big.Int).Mul(whole(a), whole(b)))); got != want {
				t.Errorf("Mul(%d, %d) = %v, not %v", a, b, got, want)
			}
		}
	}
}

func TestSize(t *testing.T) {
	for _, c := range []struct {
		a    int64
		want answer
	}{
		{0, answer{n: 0}}, {7, answer{n: 7}}, {-7, answer{n: 7}},
		{most, answer{n: most}}, {-most, answer{n: most}}, {least, over},
	} {
		if got := told(Size(c.a)); got != c.want {
			t.Errorf("Size(%d) = %v, not %v", c.a, got, c.want)
		}
	}
	for _, a := range edges() {
		if got, want := told(Size(a)), told(exact(new(big.Int).Abs(whole(a)))); got != want {
			t.Errorf("Size(%d) = %v, not %v", a, got, want)
		}
	}
}

func TestMulDivOfBothSigns(t *testing.T) {
	for _, c := range []struct {
		a, b, c  int64
		down, up answer
	}{
		{7, 3, 2, answer{n: 10}, answer{n: 11}},
		{-7, 3, 2, answer{n: -11}, answer{n: -10}},
		{7, -3, 2, answer{n: -11}, answer{n: -10}},
		{-7, -3, 2, answer{n: 10}, answer{n: 11}},
		{-6, 4, 3, answer{n: -8}, answer{n: -8}},
		{6, 4, 3, answer{n: 8}, answer{n: 8}},
		{0, -5, 3, answer{n: 0}, answer{n: 0}},
		{1, 1, most, answer{n: 0}, answer{n: 1}},
		{-1, 1, most, answer{n: -1}, answer{n: 0}},
	} {
		if got := told(MulDiv(c.a, c.b, c.c, false)); got != c.down {
			t.Errorf("MulDiv(%d, %d, %d) down = %v, not %v", c.a, c.b, c.c, got, c.down)
		}
		if got := told(MulDiv(c.a, c.b, c.c, true)); got != c.up {
			t.Errorf("MulDiv(%d, %d, %d) up = %v, not %v", c.a, c.b, c.c, got, c.up)
		}
	}
}

// A quotient may lie between the greatest amount, or the least one, and the next whole number beyond it.
func TestMulDivAtTheEnds(t *testing.T) {
	const third = 3074457345618258603 // 3 * third = 2^63 + 1
	for _, c := range []struct {
		a, b, c  int64
		down, up answer
	}{
		{most, most, most, answer{n: most}, answer{n: most}},
		{least, most, most, answer{n: least}, answer{n: least}},
		{least, least, most, over, over},
		{most, 1, 1, answer{n: most}, answer{n: most}},
		{least, 1, 1, answer{n: least}, answer{n: least}},
		{least, -1, 1, over, over},
		// between 2^63 - 1 and 2^63: (2^64 - 1) / 2
		{1<<32 - 1, 1<<32 + 1, 2, answer{n: most}, over},
		{1<<32 - 1, -1<<32 - 1, 2, answer{n: least}, answer{n: -most}},
		// between 2^63 and 2^63 + 1: (2^64 + 1) / 2
		{274177, 67280421310721, 2, over, over},
		{-274177, 67280421310721, 2, over, answer{n: least}},
		// between 2^64 - 1 and 2^64, where one more would wrap round to 0: (2^65 - 1) / 2
		{31, (1<<65 - 1) / 31, 2, over, over},
		{-31, (1<<65 - 1) / 31, 2, over, over},
		{third, 3, 1, over, over},
		{-third, 3, 1, over, over},
		{-third, 6, 2, over, over},
		{third, -12, 5, answer{n: -7378697629483820648}, answer{n: -7378697629483820647}},
	} {
		if got := told(MulDiv(c.a, c.b, c.c, false)); got != c.down {
			t.Errorf("MulDiv(%d, %d, %d) down = %v, not %v", c.a, c.b, c.c, got, c.down)
		}
		if got := told(MulDiv(c.a, c.b, c.c, true)); got != c.up {
			t.Errorf("MulDiv(%d, %d, %d) up = %v, not %v", c.a, c.b, c.c, got, c.up)
		}
	}
}

func TestMulDivOfADivisorBelowOne(t *testing.T) {
	for _, c := range []int64{0, -1, -10000, -most, least} {
		for _, up := range []bool{false, true} {
			// Where the product is far too great as well, ErrArg is named first.
			for _, a := range []int64{0, 5, least, most} {
				if got := told(MulDiv(a, most, c, up)); got != (answer{0, api.ErrArg}) {
					t.Errorf("MulDiv(%d, most, %d, %v) = %v, not ErrArg", a, c, up, got)
				}
			}
		}
	}
}

func TestMulDivIsExact(t *testing.T) {
	for _, a := range edges() {
		for _, b := range edges() {
			for _, c := range edges() {
				if c < 1 {
					continue
				}
				for _, up := range []bool{false, true} {
					if got, want := told(MulDiv(a, b, c, up)), told(parted(a, b, c, up)); got != want {
						t.Errorf("MulDiv(%d, %d, %d, %v) = %v, not %v", a, b, c, up, got, want)
					}
				}
			}
		}
	}
}

func TestSumAndChain(t *testing.T) {
	for _, c := range []struct {
		a          int64
		l          []int64
		sum, chain answer
	}{
		{9, nil, answer{n: 0}, answer{n: 9}},
		{9, []int64{}, answer{n: 0}, answer{n: 9}},
		{least, nil, answer{n: 0}, answer{n: least}},
		{1, []int64{2, 3, -10}, answer{n: -5}, answer{n: -4}},
		{0, []int64{most}, answer{n: most}, answer{n: most}},
		{0, []int64{least}, answer{n: least}, answer{n: least}},
		{1, []int64{most}, answer{n: most}, over},
		{-1, []int64{least}, answer{n: least}, over},
		{0, []int64{most, 1}, over, over},
		{0, []int64{least, -1}, over, over},
		// sums on the way that are none
		{0, []int64{most, 1, -1}, answer{n: most}, over},
		{0, []int64{least, -1, 1}, answer{n: least}, over},
		{0, []int64{most, most, most, least, least, least}, answer{n: -3}, over},
		{0, []int64{least, least, most, most, 2}, answer{n: 0}, over},
		{1, []int64{most, -5}, answer{n: most - 5}, over},
		// that wrap round to a right amount, but aren't one
		{0, []int64{least, least}, over, over},
		{0, []int64{most, most, 2}, over, over},
		// the same ones, put so that each sum is an amount
		{0, []int64{most, least, most, least, most, least}, answer{n: -3}, answer{n: -3}},
		{most, []int64{least, 1}, answer{n: least + 1}, answer{n: 0}},
	} {
		before := slices.Clone(c.l)
		if got := told(Sum(c.l)); got != c.sum {
			t.Errorf("Sum(%v) = %v, not %v", c.l, got, c.sum)
		}
		if got := told(Chain(c.a, c.l)); got != c.chain {
			t.Errorf("Chain(%d, %v) = %v, not %v", c.a, c.l, got, c.chain)
		}
		if !slices.Equal(before, c.l) {
			t.Errorf("%v has become %v", before, c.l)
		}
	}
}

func TestSumOfMany(t *testing.T) {
	const count = 100000
	l := make([]int64, 0, 2*count+1)
	for range count {
		l = append(l, most)
	}
	if got := told(Sum(l)); got != over {
		t.Errorf("the greatest amount, often: %v", got)
	}
	for range count {
		l = append(l, -most)
	}
	if got := told(Sum(append(l, 42))); got != (answer{n: 42}) {
		t.Errorf("there and back, and 42: %v", got)
	}
}

func TestSumAndChainAreExact(t *testing.T) {
	for _, a := range edges() {
		for _, b := range edges() {
			for _, c := range edges() {
				first := new(big.Int).Add(whole(a), whole(b))
				total := new(big.Int).Add(first, whole(c))
				want := told(exact(total))
				if got := told(Sum([]int64{a, b, c})); got != want {
					t.Errorf("Sum(%d, %d, %d) = %v, not %v", a, b, c, got, want)
				}
				if !first.IsInt64() {
					want = over
				}
				if got := told(Chain(a, []int64{b, c})); got != want {
					t.Errorf("Chain(%d, %d, %d) = %v, not %v", a, b, c, got, want)
				}
			}
		}
	}
}

func TestWhatWasAddedIsTakenOff(t *testing.T) {
	for _, a := range edges() {
		for _, b := range edges() {
			sum, err := Add(a, b)
			if err != api.OK {
				continue
			}
			if got := told(Sub(sum, b)); got != (answer{n: a}) {
				t.Errorf("%d and %d, less %d: %v", a, b, b, got)
			}
		}
	}
}

func TestAChainThatGoesThroughIsTheSum(t *testing.T) {
	through := 0
	for _, a := range edges() {
		for _, b := range edges() {
			for _, c := range edges() {
				n, err := Chain(a, []int64{b, c})
				if err != api.OK {
					continue
				}
				through++
				if got := told(Sum([]int64{a, b, c})); got != (answer{n: n}) {
					t.Errorf("Chain(%d, %d, %d) is %d, Sum %v", a, b, c, n, got)
				}
			}
		}
	}
	if through == 0 {
		t.Error("no chain goes through")
	}
}

func TestTheGreaterQuotientIsAtMostOneMore(t *testing.T) {
	for _, a := range edges() {
		for _, b := range edges() {
			for _, c := range []int64{1, 2, 3, 10000, 1 << 32, most} {
				down, err := MulDiv(a, b, c, false)
				if err != api.OK {
					continue
				}
				up, err := MulDiv(a, b, c, true)
				if err != api.OK && down == most {
					continue
				}
				if err != api.OK || up != down && up != down+1 {
					t.Errorf("%d times %d by %d: %d, %d (%d)", a, b, c, down, up, err)
				}
			}
		}
	}
}
