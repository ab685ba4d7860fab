package risk

import (
	"slices"

	"nostro/api"
	"nostro/money"
)

// netAndShort are the member's net worth, and what it is short, behind its postings of the batch, or worth's error.
func (g *Guard) netAndShort(member int, batch []api.Posting) (int64, int64, api.Errno) {
	// The ledger is not the guard's alone: whoever gave it may have changed it.
	g.worths.Moved(member)
	return g.worths.If(member, batch)
}

// balances are the member's behind its postings of the batch, all of currencies that there are: ErrOver if one on the
// way would be no amount.
func (g *Guard) balances(member int, batch []api.Posting) ([]int64, api.Errno) {
	_, currencies := g.ledger.Size()
	balances := make([]int64, currencies)
	for cur := range currencies {
		balances[cur] = g.ledger.Get(member, cur)
	}
	for _, p := range batch {
		if p.Member != member {
			continue
		}
		next, err := money.Add(balances[p.Cur], p.Amount)
		if err != api.OK {
			return nil, err
		}
		balances[p.Cur] = next
	}
	return balances, api.OK
}

// hasPart tells whether one of the batch's postings is the member's.
func hasPart(member int, batch []api.Posting) bool {
	return slices.ContainsFunc(batch, func(p api.Posting) bool { return p.Member == member })
}

// one is a batch of a single posting.
func one(member, cur int, amount int64) []api.Posting {
	return []api.Posting{{Member: member, Cur: cur, Amount: amount}}
}
