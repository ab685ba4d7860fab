package inout

import (
	"math/big"

	"nostro/api"
	"nostro/table"
)

// model holds nets as numbers of any size, and what was proposed by them.
type model struct {
	t     []api.Currency
	net   [][]*big.Int
	least int64
	swaps []Swap
}

// modelPropose tells what Propose should, as the chapter does.
func modelPropose(t []api.Currency, net [][]int64, least int64) ([]Swap, [][]int64, api.Errno) {
	if err := modelCheck(t, net, least); err != api.OK {
		return nil, nil, err
	}
	m := &model{t: t, net: wide(net), least: least}
	for cur := 1; cur < len(t); cur++ {
		for to := range net {
			for _, from := range m.above(cur) {
				if err := m.pair(from, to, cur); err != api.OK {
					return nil, nil, err
				}
			}
		}
	}
	return m.swaps, narrow(m.net), api.OK
}

// modelCheck tells what is wrong with arguments; what there is of the last kind is told, if there is none of one ahead.
func modelCheck(t []api.Currency, net [][]int64, least int64) api.Errno {
	err := api.OK
	if least <= 0 {
		err = api.ErrArg
	}
	for _, row := range net {
		if len(row) != len(t) {
			err = api.ErrArg
		}
	}
	if len(net) > 16 {
		err = api.ErrMany
	}
	if e := table.Check(t); e != api.OK {
		err = e
	}
	return err
}

// above are the members whose net of a currency is above 0.
func (m *model) above(cur int) []int {
	var l []int
	for member, row := range m.net {
		if row[cur].Sign() > 0 {
			l = append(l, member)
		}
	}
	return l
}

// pair proposes what one member may give to another one, if both nets stand so.
func (m *model) pair(from, to, cur int) api.Errno {
	owed, got := new(big.Int).Neg(m.net[to][cur]), m.net[from][cur]
	if owed.Sign() <= 0 || got.Sign() <= 0 {
		return api.OK
	}
	if !owed.IsInt64() {
		return api.ErrOver
	}
	amount := new(big.Int).Set(owed)
	if got.Cmp(owed) < 0 {
		amount.Set(got)
	}
	if amount.Cmp(big.NewInt(m.least)) < 0 {
		return api.OK
	}
	worth := new(big.Int).Mul(amount, big.NewInt(m.t[cur].Rate))
	worth.Quo(worth, big.NewInt(10000)) // neither is below 0, so that this is down
	m.net[to][cur].Add(m.net[to][cur], amount)
	m.net[from][cur].Sub(m.net[from][cur], amount)
	m.net[to][0].Sub(m.net[to][0], worth)
	m.net[from][0].Add(m.net[from][0], worth)
	if !worth.IsInt64() || !m.net[to][0].IsInt64() || !m.net[from][0].IsInt64() {
		return api.ErrOver
	}
	m.swaps = append(m.swaps, Swap{From: from, To: to, Cur: cur, Amount: amount.Int64(), Base: worth.Int64()})
	return api.OK
}

// wide are nets as numbers of any size.
func wide(net [][]int64) [][]*big.Int {
	var all [][]*big.Int
	for _, row := range net {
		var l []*big.Int
		for _, amount := range row {
			l = append(l, big.NewInt(amount))
		}
		all = append(all, l)
	}
	return all
}

// narrow are nets as amounts, which they are to be.
func narrow(net [][]*big.Int) [][]int64 {
	var all [][]int64
	for _, row := range net {
		var l []int64
		for _, n := range row {
			l = append(l, n.Int64())
		}
		all = append(all, l)
	}
	return all
}

// column is the exact sum of all nets of a currency.
func column(net [][]int64, cur int) *big.Int {
	sum := new(big.Int)
	for _, row := range net {
		sum.Add(sum, big.NewInt(row[cur]))
	}
	return sum
}
