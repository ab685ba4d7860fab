package plan

import (
	"nostro/api"
	"nostro/money"
)

// flows holds, by member and currency, what is paid and got. Sums are made of all at the end, as one on the way may be
// no amount where the net is.
type flows [api.MostMembers][api.MostCurrencies][]int64

// pay adds that one member pays another one so much.
func (f *flows) pay(from, to, cur int, amount int64) {
	f[from][cur] = append(f[from][cur], -amount)
	f[to][cur] = append(f[to][cur], amount)
}

// nets tells what so many members get of so many currencies, less what they pay: ErrOver if one of these is no amount.
func (f *flows) nets(members, currencies int) ([][]int64, api.Errno) {
	nets := make([][]int64, members)
	for member := range nets {
		nets[member] = make([]int64, currencies)
		for cur := range nets[member] {
			net, err := money.Sum(f[member][cur])
			if err != api.OK {
				return nil, err
			}
			nets[member][cur] = net
		}
	}
	return nets, api.OK
}
