package plan

import (
	"cmp"
	"slices"

	"nostro/api"
	"nostro/money"
	"nostro/split"
)

// Due is what a member must pay in by a tick.
type Due struct {
	Member, Cur, At int
	Amount          int64
}

// byAccount puts the due in front whose member, and then whose currency, is the lower one.
func (d Due) byAccount(other Due) int {
	return cmp.Or(cmp.Compare(d.Member, other.Member), cmp.Compare(d.Cur, other.Cur))
}

// byTick puts the due in front whose tick is the earlier one, and of one tick does as byAccount.
func (d Due) byTick(other Due) int {
	return cmp.Or(cmp.Compare(d.At, other.At), d.byAccount(other))
}

// wrong tells whether there can be no such due.
func (d Due) wrong() bool {
	return d.Member < 0 || d.Cur < 0 || d.Amount < 1
}

// spread shares a net below 0 out over deadlines, and tells the dues that aren't 0: ErrOver if its size is no amount.
func spread(member, cur int, net int64, deadlines []int) ([]Due, api.Errno) {
	size, err := money.Size(net)
	if err != api.OK {
		return nil, err
	}
	// The size is above 0, and there are no more deadlines than split takes parts: there is nothing to be refused.
	shares, _ := split.Even(size, len(deadlines))
	var dues []Due
	for place, share := range shares {
		if share > 0 {
			dues = append(dues, Due{Member: member, Cur: cur, At: deadlines[place], Amount: share})
		}
	}
	return dues, api.OK
}

// upTo tells the dues whose ticks aren't later than now, those of one member and currency side by side.
func upTo(due []Due, now int) []Due {
	var l []Due
	for _, d := range due {
		if d.At <= now {
			l = append(l, d)
		}
	}
	slices.SortFunc(l, Due.byAccount)
	return l
}

// ofFirst tells the dues, from the first one on, that are of its member and currency; there is one at least.
func ofFirst(l []Due) []Due {
	count := slices.IndexFunc(l, func(d Due) bool { return d.byAccount(l[0]) != 0 })
	if count < 0 {
		return l
	}
	return l[:count]
}

// missing tells what dues of one member and currency are together, less what it paid: ErrOver if they are no amount.
func missing(l []Due, paid [][]int64) (int64, api.Errno) {
	amounts := make([]int64, len(l))
	for place, d := range l {
		amounts[place] = d.Amount
	}
	total, err := money.Sum(amounts)
	if err != api.OK {
		return 0, err
	}
	return money.Sub(total, payments(paid, l[0].Member, l[0].Cur))
}

// payments tells what a member paid of a currency: 0 where nothing is told, or less than that.
func payments(paid [][]int64, member, cur int) int64 {
	if member >= len(paid) || cur >= len(paid[member]) {
		return 0
	}
	return max(0, paid[member][cur])
}
