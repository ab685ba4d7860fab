package split

import (
	"cmp"
	"slices"

	"nostro/money"
)

// leftovers holds, by its place, what is left over of each weight's division.
type leftovers []int64

// ahead puts the place in front of which more is left over, and of as much the one that stands ahead. No two
// places are alike to it, so there is one order only, whichever way they are sorted.
func (l leftovers) ahead(a, b int) int {
	if more := cmp.Compare(l[b], l[a]); more != 0 {
		return more
	}
	return cmp.Compare(a, b)
}

// order tells all places, in the order in which they get one more.
func (l leftovers) order() []int {
	places := make([]int, len(l))
	for place := range places {
		places[place] = place
	}
	slices.SortFunc(places, l.ahead)
	return places
}

// part is the total times the weight by the sum of all weights: the whole number below it, and the rest.
func part(total, weight, sum int64) (share, rest int64) {
	// A weight is no more than the sum, so the share is no more than the total: it is an amount.
	share, _ = money.MulDiv(total, weight, sum, false)
	// Both products may leave 64 bits, and wrap round; the rest is below the sum, so their difference is right.
	return share, total*weight - share*sum
}
