package worth

import (
	"nostro/api"
	"nostro/ledger"
	"nostro/money"
	"nostro/table"
)

// account is what is kept of a member: a balance of each currency, as it was when it was taken.
type account struct {
	balances [api.MostCurrencies]int64
}

func accountOf(l *ledger.Ledger, member int) account {
	var a account
	for cur := range a.balances {
		a.balances[cur] = l.Get(member, cur)
	}
	return a
}

// post lets a balance be so much more, or leaves it as it was: ErrOver if it would be no amount.
func (a *account) post(cur int, amount int64) api.Errno {
	sum, err := money.Add(a.balances[cur], amount)
	if err == api.OK {
		a.balances[cur] = sum
	}
	return err
}

// by is where the account stands by a table.
func (a account) by(t []api.Currency) standing {
	s := standing{account: a}
	s.net, s.short = s.netBy(t), s.shortBy(t)
	return s
}

// standing is what is told of a member: its account, its net worth, and what it is short.
type standing struct {
	account
	net, short figure
}

// both is the net worth and what is short, or the error of one of them.
func (s standing) both() (int64, int64, api.Errno) {
	net, err := s.net.told()
	if err != api.OK {
		return 0, 0, err
	}
	short, err := s.short.told()
	if err != api.OK {
		return 0, 0, err
	}
	return net, short, api.OK
}

// netBy is what the balances are worth together, with their haircuts.
func (s standing) netBy(t []api.Currency) figure {
	var worths []int64
	for cur := range t {
		worth, err := table.Worth(t, cur, s.balances[cur])
		if err != api.OK {
			return figure{err: err}
		}
		worths = append(worths, worth)
	}
	return together(worths)
}

// shortBy is what the balances below 0 are worth together, plainly and of the other sign.
func (s standing) shortBy(t []api.Currency) figure {
	var shorts []int64
	for cur := range t {
		if s.balances[cur] >= 0 {
			continue
		}
		plain, err := table.Plain(t, cur, s.balances[cur])
		if err != api.OK {
			return figure{err: err}
		}
		short, err := money.Size(plain)
		if err != api.OK {
			return figure{err: err}
		}
		shorts = append(shorts, short)
	}
	return together(shorts)
}

// figure is an amount, or the error by which it is none.
type figure struct {
	amount int64
	err    api.Errno
}

// together is all the amounts, one after the other.
func together(amounts []int64) figure {
	sum, err := money.Chain(0, amounts)
	return figure{amount: sum, err: err}
}

func (f figure) told() (int64, api.Errno) {
	return f.amount, f.err
}
