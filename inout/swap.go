package inout

import (
	"nostro/api"
	"nostro/money"
	"nostro/table"
)

// base is the place of the currency for which all others are given.
const base = 0

// Swap is a proposal: From gives To so much of a currency, and gets from it so much of the base.
type Swap struct {
	From, To, Cur int
	Amount, Base  int64
}

// lesser tells the lesser one of both sizes of a net below 0 and of one above it: ErrOver if the first one's is no amount.
func lesser(owed, got int64) (int64, api.Errno) {
	size, err := money.Size(owed)
	return min(size, got), err
}

// priced tells the swap with what its Amount is in the base, brought down: ErrOver if that is no amount.
func priced(t []api.Currency, s Swap) (Swap, api.Errno) {
	worth, err := table.Change(t, s.Cur, base, s.Amount, false)
	s.Base = worth
	return s, err
}

// change changes the nets of both members by the swap: ErrOver if one is no amount then.
func (s Swap) change(net [][]int64) api.Errno {
	// The Amount is no more than either size, so both nets come nearer to 0: there is nothing to be refused.
	move(net, s.From, s.To, s.Cur, s.Amount)
	return move(net, s.To, s.From, base, s.Base)
}

// move takes so much of a currency off one member's net, and adds it to another one's: ErrOver if one is no amount then.
func move(net [][]int64, from, to, cur int, amount int64) api.Errno {
	less, err := money.Sub(net[from][cur], amount)
	if err != api.OK {
		return err
	}
	more, err := money.Add(net[to][cur], amount)
	if err != api.OK {
		return err
	}
	net[from][cur], net[to][cur] = less, more
	return api.OK
}
