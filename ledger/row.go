package ledger

import (
	"nostro/api"
	"nostro/money"
)

// row is one amount of each currency, 0 of those that a ledger hasn't: so two of them are alike as wholes, or differ
// in a currency that is there.
type row [api.MostCurrencies]int64

// plus is the row with so much more of one currency, or ErrOver if that is no amount.
func (r row) plus(cur int, amount int64) (row, api.Errno) {
	sum, err := money.Add(r[cur], amount)
	if err != api.OK {
		return row{}, err
	}
	r[cur] = sum
	return r, api.OK
}

// columns are any number of amounts of each currency.
type columns [api.MostCurrencies][]int64

// sums is the exact sum of each column, or ErrOver if one is no amount.
func (c columns) sums() (row, api.Errno) {
	var sums row
	for cur, amounts := range c {
		sum, err := money.Sum(amounts)
		if err != api.OK {
			return row{}, err
		}
		sums[cur] = sum
	}
	return sums, api.OK
}
