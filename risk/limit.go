package risk

import (
	"slices"

	"nostro/api"
)

// The tests that a member must pass. What fails is the sum of those that aren't passed.
const (
	solvent      = 1 << iota // the net worth isn't below 0
	withinShorts             // no balance is below its Short, of the other sign
	withinAll                // what the member is short is no more than All

	everyTest = solvent | withinShorts | withinAll
)

// limitsOf is a copy of a limit of each member: ErrArg if there are not as many, or one may not be.
func limitsOf(limits []api.Limit, members, currencies int) ([]api.Limit, api.Errno) {
	if len(limits) != members {
		return nil, api.ErrArg
	}
	own := make([]api.Limit, members)
	for member := range members {
		l := limits[member]
		if len(l.Short) != currencies || slices.ContainsFunc(l.Short, isBelowZero) || isBelowZero(l.All) {
			return nil, api.ErrArg
		}
		own[member] = api.Limit{Short: slices.Clone(l.Short), All: l.All}
	}
	return own, api.OK
}

func isBelowZero(amount int64) bool {
	return amount < 0
}

// failed is the sum of the tests that such balances don't pass, which are worth net, and are short by that.
func failed(l api.Limit, balances []int64, net, short int64) int {
	sum := 0
	if isBelowZero(net) {
		sum += solvent
	}
	if exceeds(balances, l.Short) {
		sum += withinShorts
	}
	if short > l.All {
		sum += withinAll
	}
	return sum
}

// exceeds tells whether a balance is below its Short, of the other sign.
func exceeds(balances, shorts []int64) bool {
	for cur, short := range shorts {
		// No Short is below 0, so that -short is an amount, whichever it is.
		if balances[cur] < -short {
			return true
		}
	}
	return false
}
