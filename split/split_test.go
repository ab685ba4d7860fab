package split

import (
	"math"
	"math/big"
	"slices"
	"testing"

	"nostro/api"
)

const (
	greatest = math.MaxInt64
	least    = math.MinInt64
)

// same is a list of count times a.
func same(a int64, count int) []int64 {
	return slices.Repeat([]int64{a}, count)
}

// weightLists are lists of ordinary weights, of weights about the edges, and of a long row's numbers that
// follow no plain pattern; the sum of each is an amount above 0.
func weightLists() [][]int64 {
	l := [][]int64{
		{1}, {greatest}, {1, 1, 1}, {1, 5, 1}, {5, 1, 1}, {1, 1, 5}, {3, 2, 2}, {33, 33, 34}, {1, 2, 3, 4, 5},
		{0, 1}, {1, 0}, {0, 1, 0}, {0, 0, 7, 0, 7, 0, 3}, {2, 2, 4, 4, 1, 1}, {7, 11, 13, 17, 19, 23},
		{greatest, 0}, {0, greatest, 0}, {greatest - 1, 1}, {1, greatest - 1}, {greatest / 2, greatest / 2},
		{greatest / 2, greatest/2 + 1}, {greatest / 3, greatest / 3, greatest / 3}, {1, greatest / 2, 1},
		{1 << 62, 1<<62 - 1}, {1 << 61, 1 << 61, 1 << 61, 1<<61 - 1}, {10000, 9999, 10001},
		same(1, 63), same(1, 64), same(greatest/64, 64), append(same(0, 63), 1), append(same(1, 63), greatest/2),
	}
	state := uint64(1)
	for size := 1; size <= mostParts; size++ {
		for _, shift := range []int{4, 32, 57} {
			list := make([]int64, size)
			for i := range list {
				state = state*6364136223846793005 + 1442695040888963407
				list[i] = int64(state >> (64 - shift))
			}
			list[size-1]++
			l = append(l, list)
		}
	}
	return l
}

func totals() []int64 {
	return []int64{0, 1, 2, 3, 7, 10, 11, 63, 64, 65, 100, 9999, 1<<32 + 1, 1<<53 + 1, 1 << 62, greatest / 3,
		greatest - 1, greatest}
}

// told is the document's Shares, word by word, by whole numbers of any size.
func told(total int64, weights []int64) []int64 {
	sum, given := new(big.Int), new(big.Int)
	for _, weight := range weights {
		sum.Add(sum, big.NewInt(weight))
	}
	shares, rests := make([]int64, len(weights)), make([]*big.Int, len(weights))
	for i, weight := range weights {
		product := new(big.Int).Mul(big.NewInt(total), big.NewInt(weight))
		quotient, rest := new(big.Int).DivMod(product, sum, new(big.Int))
		shares[i], rests[i] = quotient.Int64(), rest
		given.Add(given, quotient)
	}
	for missing := total - given.Int64(); missing > 0; missing-- {
		first := 0
		for i := range rests {
			if rests[i].Cmp(rests[first]) > 0 {
				first = i
			}
		}
		shares[first]++
		rests[first] = big.NewInt(-1)
	}
	return shares
}

func TestShares(t *testing.T) {
	for _, c := range []struct {
		total         int64
		weights, want []int64
	}{
		{10, []int64{1, 1, 1}, []int64{4, 3, 3}},
		{10, []int64{1, 5, 1}, []int64{2, 7, 1}},
		{7, []int64{5}, []int64{7}},
		{12, []int64{1, 2, 3}, []int64{2, 4, 6}},
		// a total of 0
		{0, []int64{3}, []int64{0}},
		{0, []int64{1, 2, greatest - 3}, []int64{0, 0, 0}},
		// a weight of 0 beside others gets nothing, not even of what is missing
		{5, []int64{0, 1, 0}, []int64{0, 5, 0}},
		{5, []int64{0, 1, 0, 1, 0, 1}, []int64{0, 2, 0, 2, 0, 1}},
		// most left over first: 1 2/3, 3 1/3
		{5, []int64{1, 2}, []int64{2, 3}},
		{5, []int64{2, 1}, []int64{3, 2}},
		// 3/6 2/6 1/6, and the other way round
		{1, []int64{3, 2, 1}, []int64{1, 0, 0}},
		{1, []int64{1, 2, 3}, []int64{0, 0, 1}},
		// as much left over in several places: the ones that stand ahead
		{2, []int64{1, 1, 1, 1}, []int64{1, 1, 0, 0}},
		{3, []int64{1, 1, 1, 1}, []int64{1, 1, 1, 0}},
		{1, []int64{1, 3, 3, 1}, []int64{0, 1, 0, 0}},
		// of unlike weights too: 2 1/2, 1 1/2, 1
		{5, []int64{5, 3, 2}, []int64{3, 1, 1}},
		{5, []int64{3, 5, 2}, []int64{2, 2, 1}},
		// 4 5/7, 3 1/7, 3 1/7
		{11, []int64{3, 2, 2}, []int64{5, 3, 3}},
		// two are missing: 5/7, 1 3/7, 2 6/7
		{5, []int64{1, 2, 4}, []int64{1, 1, 3}},
		// the greatest amount as the total, as a weight, and as the weights' sum
		{greatest, []int64{1}, []int64{greatest}},
		{greatest, []int64{1, 1}, []int64{1 << 62, 1<<62 - 1}},
		{1, []int64{greatest}, []int64{1}},
		{greatest, []int64{greatest}, []int64{greatest}},
		{greatest, []int64{0, greatest}, []int64{0, greatest}},
		{greatest, []int64{greatest - 1, 1}, []int64{greatest - 1, 1}},
		{greatest - 1, []int64{greatest - 1, 1}, []int64{greatest - 2, 1}},
		{greatest, []int64{greatest / 2, greatest / 2}, []int64{1 << 62, 1<<62 - 1}},
		// 64 weights
		{64, same(greatest/64, 64), same(1, 64)},
		{65, same(1, 64), append([]int64{2}, same(1, 63)...)},
		{63, same(1, 64), append(same(1, 63), 0)},
		{9, append(same(0, 63), 1), append(same(0, 63), 9)},
	} {
		got, err := Shares(c.total, c.weights)
		if err != api.OK || !slices.Equal(got, c.want) {
			t.Errorf("Shares(%d, %v) = %v, %d, not %v", c.total, c.weights, got, err, c.want)
		}
	}
}

func TestSharesAreTheDocuments(t *testing.T) {
	for _, weights := range weightLists() {
		for _, total := range totals() {
			got, err := Shares(total, weights)
			if want := told(total, weights); err != api.OK || !slices.Equal(got, want) {
				t.Errorf("Shares(%d, %v) = %v, %d, not %v", total, weights, got, err, want)
			}
		}
	}
}

func TestSharesRefused(t *testing.T) {
	for _, c := range []struct {
		total   int64
		weights []int64
		want    api.Errno
	}{
		{10, same(1, 65), api.ErrMany},
		{0, same(0, 1000), api.ErrMany},
		{-1, []int64{1}, api.ErrArg},
		{least, []int64{1, 2}, api.ErrArg},
		{10, []int64{-1}, api.ErrArg},
		{10, []int64{1, -1}, api.ErrArg},
		{10, []int64{-1, 5}, api.ErrArg},
		{10, []int64{5, least, 5}, api.ErrArg},
		{10, nil, api.ErrArg},
		{10, []int64{}, api.ErrArg},
		{0, nil, api.ErrArg},
		{10, []int64{0}, api.ErrArg},
		{0, []int64{0, 0}, api.ErrArg},
		{10, same(0, 64), api.ErrArg},
		{10, []int64{greatest, 1}, api.ErrOver},
		{0, []int64{1, greatest}, api.ErrOver},
		{10, []int64{greatest/2 + 1, greatest/2 + 1}, api.ErrOver},
		// sums that wrap round to 0, and to a number above it
		{10, []int64{greatest, greatest, 2}, api.ErrOver},
		{10, []int64{greatest, greatest, 5}, api.ErrOver},
		{10, same(greatest, 64), api.ErrOver},
		// several errors: the one named first
		{-1, same(1, 65), api.ErrMany},
		{10, same(0, 65), api.ErrMany},
		{10, same(-1, 65), api.ErrMany},
		{10, same(greatest, 65), api.ErrMany},
		{-1, same(greatest, 65), api.ErrMany},
		{-1, []int64{greatest, 1}, api.ErrArg},
		{10, []int64{greatest, greatest, -1}, api.ErrArg},
		{10, []int64{-1, greatest, greatest}, api.ErrArg},
	} {
		got, err := Shares(c.total, c.weights)
		if err != c.want || len(got) != 0 {
			t.Errorf("Shares(%d, %v) = %v, %d, not %d", c.total, c.weights, got, err, c.want)
		}
	}
}

func TestEven(t *testing.T) {
	for _, c := range []struct {
		total int64
		parts int
		want  []int64
	}{
		{10, 3, []int64{4, 3, 3}},
		{10, 4, []int64{3, 3, 2, 2}},
		{5, 1, []int64{5}},
		{0, 2, []int64{0, 0}},
		{1, 3, []int64{1, 0, 0}},
		{greatest, 1, []int64{greatest}},
		{greatest, 2, []int64{1 << 62, 1<<62 - 1}},
		{greatest, 64, append(same(greatest/64+1, 63), greatest/64)},
		{0, 64, same(0, 64)},
	} {
		got, err := Even(c.total, c.parts)
		if err != api.OK || !slices.Equal(got, c.want) {
			t.Errorf("Even(%d, %d) = %v, %d, not %v", c.total, c.parts, got, err, c.want)
		}
	}
}

func TestEvenIsSharesByOnes(t *testing.T) {
	for parts := 1; parts <= mostParts; parts++ {
		for _, total := range totals() {
			got, err := Even(total, parts)
			if want := told(total, same(1, parts)); err != api.OK || !slices.Equal(got, want) {
				t.Errorf("Even(%d, %d) = %v, %d, not %v", total, parts, got, err, want)
			}
		}
	}
}

func TestEvenRefused(t *testing.T) {
	for _, c := range []struct {
		total int64
		parts int
		want  api.Errno
	}{
		{5, 65, api.ErrMany},
		{5, math.MaxInt, api.ErrMany},
		{5, 0, api.ErrArg},
		{0, 0, api.ErrArg},
		{5, -1, api.ErrArg},
		{5, math.MinInt, api.ErrArg},
		{-1, 2, api.ErrArg},
		{least, 64, api.ErrArg},
		{-1, 0, api.ErrArg},
		// several errors: the one named first
		{-1, 65, api.ErrMany},
		{least, math.MaxInt, api.ErrMany},
	} {
		got, err := Even(c.total, c.parts)
		if err != c.want || len(got) != 0 {
			t.Errorf("Even(%d, %d) = %v, %d, not %d", c.total, c.parts, got, err, c.want)
		}
	}
}

func TestFill(t *testing.T) {
	for _, c := range []struct {
		total       int64
		rooms, want []int64
		left        int64
	}{
		{10, []int64{3, 4}, []int64{3, 4}, 3},
		{7, []int64{3, 4}, []int64{3, 4}, 0},
		// filled in part: in the middle, in the first, in the last
		{5, []int64{3, 4, 9}, []int64{3, 2, 0}, 0},
		{2, []int64{3, 4, 9}, []int64{2, 0, 0}, 0},
		{15, []int64{3, 4, 9}, []int64{3, 4, 8}, 0},
		// rooms of 0
		{10, []int64{3, 0, 4, 9}, []int64{3, 0, 4, 3}, 0},
		{10, []int64{0, 0}, []int64{0, 0}, 10},
		{0, []int64{5, 6}, []int64{0, 0}, 0},
		{7, nil, nil, 7},
		{0, []int64{}, nil, 0},
		// the greatest amount, and rooms that are together far more
		{greatest, []int64{greatest}, []int64{greatest}, 0},
		{greatest, []int64{1, greatest, greatest}, []int64{1, greatest - 1, 0}, 0},
		{greatest, []int64{greatest - 1, 0}, []int64{greatest - 1, 0}, 1},
		{3, []int64{1, greatest, greatest}, []int64{1, 2, 0}, 0},
		{greatest, nil, nil, greatest},
		{65, same(1, 64), same(1, 64), 1},
		{5, same(greatest, 64), append([]int64{5}, same(0, 63)...), 0},
	} {
		got, left, err := Fill(c.total, c.rooms)
		if err != api.OK || left != c.left || !slices.Equal(got, c.want) {
			t.Errorf("Fill(%d, %v) = %v, %d, %d, not %v, %d", c.total, c.rooms, got, left, err, c.want, c.left)
		}
	}
}

func TestFillRefused(t *testing.T) {
	for _, c := range []struct {
		total int64
		rooms []int64
		want  api.Errno
	}{
		{1, same(0, 65), api.ErrMany},
		{1, same(5, 1000), api.ErrMany},
		{-1, nil, api.ErrArg},
		{least, []int64{1}, api.ErrArg},
		{1, []int64{-1}, api.ErrArg},
		// a room below 0 behind those that take all of it
		{1, []int64{5, 5, -1}, api.ErrArg},
		{0, []int64{0, least}, api.ErrArg},
		// several errors: the one named first
		{-1, same(1, 65), api.ErrMany},
		{1, same(-1, 65), api.ErrMany},
	} {
		got, left, err := Fill(c.total, c.rooms)
		if err != c.want || left != 0 || len(got) != 0 {
			t.Errorf("Fill(%d, %v) = %v, %d, %d, not %d", c.total, c.rooms, got, left, err, c.want)
		}
	}
}

func TestSharesAreTheTotalTogether(t *testing.T) {
	for _, weights := range weightLists() {
		for _, total := range totals() {
			shares, _ := Shares(total, weights)
			if len(shares) != len(weights) {
				t.Fatalf("Shares(%d, %v) = %v", total, weights, shares)
			}
			sum := new(big.Int)
			for _, share := range shares {
				sum.Add(sum, big.NewInt(share))
			}
			if sum.Cmp(big.NewInt(total)) != 0 {
				t.Errorf("Shares(%d, %v) are %v together", total, weights, sum)
			}
		}
	}
}

func TestNoShareIsMoreThanOneFromItsExactOne(t *testing.T) {
	for _, weights := range weightLists() {
		sum := new(big.Int)
		for _, weight := range weights {
			sum.Add(sum, big.NewInt(weight))
		}
		for _, total := range totals() {
			shares, _ := Shares(total, weights)
			for i, share := range shares {
				exact := new(big.Rat).SetFrac(new(big.Int).Mul(big.NewInt(total), big.NewInt(weights[i])), sum)
				off := new(big.Rat).Sub(new(big.Rat).SetInt64(share), exact)
				if off.Abs(off).Cmp(big.NewRat(1, 1)) > 0 {
					t.Errorf("Shares(%d, %v): %d is too far from %v", total, weights, share, exact)
				}
			}
		}
	}
}

func TestAGreaterWeightHasNoLesserShare(t *testing.T) {
	for _, weights := range weightLists() {
		for _, total := range totals() {
			shares, _ := Shares(total, weights)
			for i := range shares {
				for j := range shares {
					if weights[i] > weights[j] && shares[i] < shares[j] {
						t.Errorf("Shares(%d, %v): %d for %d, but %d for %d", total, weights,
							shares[i], weights[i], shares[j], weights[j])
					}
				}
			}
		}
	}
}

func TestArgumentsStayAndAnswersAreNew(t *testing.T) {
	list := []int64{4, 0, 9, 2}
	before := slices.Clone(list)
	shares, _ := Shares(15, list)
	filled, _, _ := Fill(15, list)
	again, _ := Shares(15, list)
	if !slices.Equal(list, before) {
		t.Fatalf("%v has become %v", before, list)
	}
	for i := range list {
		shares[i], filled[i] = -1, -1
	}
	if !slices.Equal(list, before) || !slices.Equal(again, []int64{4, 0, 9, 2}) {
		t.Errorf("an answer shares memory: %v, %v", list, again)
	}
}
