package plan

import (
	"math/big"

	"nostro/api"
	"nostro/deal"
)

// account is a member's one of a currency.
type account struct{ member, cur int }

// is tells whether a number of any size is an amount.
func is(n *big.Int) bool { return n.IsInt64() }

// modelNet tells nets as the chapter does, of the instructions that were matched and neither settled nor gone, by
// numbers of any size.
func modelNet(matched []api.Deal, members, currencies int) ([][]int64, api.Errno) {
	if members < 1 || members > 16 || currencies < 1 || currencies > 8 {
		return nil, api.ErrArg
	}
	for _, d := range matched {
		if d.A >= members || d.B >= members || d.SellCur >= currencies || d.BuyCur >= currencies {
			return nil, api.ErrArg
		}
	}
	var all [][]int64
	for member := range members {
		var row []int64
		for cur := range currencies {
			net := modelNetOf(matched, account{member, cur})
			if !is(net) {
				return nil, api.ErrOver
			}
			row = append(row, net.Int64())
		}
		all = append(all, row)
	}
	return all, api.OK
}

// modelNetOf is what one account would get, less what it would pay.
func modelNetOf(matched []api.Deal, a account) *big.Int {
	net := new(big.Int)
	for _, d := range matched {
		if a == (account{d.A, d.SellCur}) {
			net.Sub(net, big.NewInt(d.Sell))
		}
		if a == (account{d.B, d.SellCur}) {
			net.Add(net, big.NewInt(d.Sell))
		}
		if a == (account{d.B, d.BuyCur}) {
			net.Sub(net, big.NewInt(d.Buy))
		}
		if a == (account{d.A, d.BuyCur}) {
			net.Add(net, big.NewInt(d.Buy))
		}
	}
	return net
}

// matchedOf are the instructions of a book that are matched, by going through all Ids that it may know.
func matchedOf(b *deal.Book, most int) []api.Deal {
	var l []api.Deal
	for id := 1; id <= most; id++ {
		if d, _ := b.Deal(id); b.State(id) == deal.Matched {
			l = append(l, d)
		}
	}
	return l
}

// modelSchedule tells dues as the chapter does: of each deadline the whole part of the size by how many there are, and
// one more of the first ones, till there is nothing left.
func modelSchedule(net [][]int64, deadlines []int) ([]Due, api.Errno) {
	if len(deadlines) == 0 || len(deadlines) > 16 {
		return nil, api.ErrArg
	}
	for place, at := range deadlines {
		if at < 0 || place > 0 && at <= deadlines[place-1] {
			return nil, api.ErrArg
		}
	}
	if err := modelMany(net); err != api.OK {
		return nil, err
	}
	var dues []Due
	for place, at := range deadlines {
		for member, row := range net {
			for cur, amount := range row {
				if share := modelShare(amount, int64(place), int64(len(deadlines))); share > 0 {
					dues = append(dues, Due{Member: member, Cur: cur, At: at, Amount: share})
				}
			}
		}
	}
	return dues, api.OK
}

// modelMany tells which nets are too many, or too great.
func modelMany(net [][]int64) api.Errno {
	err := api.OK
	for _, row := range net {
		for _, amount := range row {
			if amount == least {
				err = api.ErrOver
			}
		}
	}
	for _, row := range net {
		if len(row) > 8 {
			err = api.ErrMany
		}
	}
	if len(net) > 16 {
		err = api.ErrMany
	}
	return err
}

// modelShare is the place's share of a net below 0: as many get one more as are left over, and those stand ahead.
func modelShare(net, place, count int64) int64 {
	if net >= 0 {
		return 0
	}
	share := -net / count
	if place < -net%count {
		share++
	}
	return share
}

// modelBehind tells who is behind as the chapter does, by numbers of any size, account by account up to the last one
// that has a due; all of these are to be small.
func modelBehind(due []Due, paid [][]int64, now int) ([]Due, api.Errno) {
	if len(due) > 4096 {
		return nil, api.ErrMany
	}
	last := account{-1, -1}
	for _, d := range due {
		if d.Member < 0 || d.Cur < 0 || d.Amount < 1 {
			return nil, api.ErrArg
		}
		last = account{max(last.member, d.Member), max(last.cur, d.Cur)}
	}
	var behind []Due
	for member := 0; member <= last.member; member++ {
		for cur := 0; cur <= last.cur; cur++ {
			sum := modelDue(due, account{member, cur}, now)
			if !is(sum) {
				return nil, api.ErrOver
			}
			if member < len(paid) && cur < len(paid[member]) && paid[member][cur] > 0 {
				sum.Sub(sum, big.NewInt(paid[member][cur]))
			}
			if sum.Sign() > 0 {
				behind = append(behind, Due{Member: member, Cur: cur, At: now, Amount: sum.Int64()})
			}
		}
	}
	return behind, api.OK
}

// modelDue is what one account must have paid by now.
func modelDue(due []Due, a account, now int) *big.Int {
	sum := new(big.Int)
	for _, d := range due {
		if a == (account{d.Member, d.Cur}) && d.At <= now {
			sum.Add(sum, big.NewInt(d.Amount))
		}
	}
	return sum
}
