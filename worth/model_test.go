package worth

import (
	"math"
	"math/big"
	"slices"
	"testing"

	"nostro/api"
	"nostro/ledger"
)

const (
	most  = math.MaxInt64
	least = math.MinInt64
)

// model is worths as the chapter tells them, by numbers of any size; all is reckoned anew at each call.
type model struct {
	t     []api.Currency
	taken [][]int64 // balances, as they were when they were taken last
}

func newModel(t []api.Currency, l *ledger.Ledger) *model {
	members, _ := l.Size()
	m := &model{t: slices.Clone(t), taken: make([][]int64, members)}
	for member := range members {
		m.moved(l, member)
	}
	return m
}

func (m *model) isMember(member int) bool { return 0 <= member && member < len(m.taken) }

func (m *model) isCurrency(cur int) bool { return 0 <= cur && cur < len(m.t) }

func (m *model) moved(l *ledger.Ledger, member int) {
	if !m.isMember(member) {
		return
	}
	m.taken[member] = nil
	for cur := range m.t {
		m.taken[member] = append(m.taken[member], l.Get(member, cur))
	}
}

func (m *model) rate(cur int, rate int64) api.Errno {
	if !m.isCurrency(cur) || rate < 1 || rate > 100000000 || cur == 0 && rate != 10000 {
		return api.ErrArg
	}
	m.t[cur].Rate = rate
	return api.OK
}

func (m *model) cut(cur int, cut int64) api.Errno {
	if !m.isCurrency(cur) || cut < 0 || cut > 10000 || cur == 0 && cut != 0 {
		return api.ErrArg
	}
	m.t[cur].Haircut = cut
	return api.OK
}

// times is the greatest whole number that is no more than the amount times all factors, by Basis as often as asked.
func times(amount int64, bases int, factors ...int64) *big.Int {
	n, divisor := big.NewInt(amount), big.NewInt(1)
	for _, factor := range factors {
		n.Mul(n, big.NewInt(factor))
	}
	for range bases {
		divisor.Mul(divisor, big.NewInt(10000))
	}
	return n.Div(n, divisor) // of a divisor above 0 this is down, below 0 too
}

// addedUp adds up one after the other, while each number and each sum is an amount.
func addedUp(numbers []*big.Int) (int64, api.Errno) {
	sum := new(big.Int)
	for _, n := range numbers {
		sum.Add(sum, n)
		if !n.IsInt64() || !sum.IsInt64() {
			return 0, api.ErrOver
		}
	}
	return sum.Int64(), api.OK
}

func netOf(t []api.Currency, balances []int64) (int64, api.Errno) {
	var worths []*big.Int
	for cur, balance := range balances {
		part := 10000 - t[cur].Haircut
		if balance < 0 {
			part = 10000 + t[cur].Haircut
		}
		worths = append(worths, times(balance, 2, t[cur].Rate, part))
	}
	return addedUp(worths)
}

func shortOf(t []api.Currency, balances []int64) (int64, api.Errno) {
	var shorts []*big.Int
	for cur, balance := range balances {
		if balance < 0 {
			// Where a plain worth is no amount, its other sign is none either.
			shorts = append(shorts, new(big.Int).Neg(times(balance, 1, t[cur].Rate)))
		}
	}
	return addedUp(shorts)
}

func (m *model) net(member int) (int64, api.Errno) {
	if !m.isMember(member) {
		return 0, api.ErrArg
	}
	return netOf(m.t, m.taken[member])
}

func (m *model) short(member int) (int64, api.Errno) {
	if !m.isMember(member) {
		return 0, api.ErrArg
	}
	return shortOf(m.t, m.taken[member])
}

func (m *model) would(member int, batch []api.Posting) (int64, int64, api.Errno) {
	if !m.isMember(member) || slices.ContainsFunc(batch, func(p api.Posting) bool { return !m.isCurrency(p.Cur) }) {
		return 0, 0, api.ErrArg
	}
	balances := slices.Clone(m.taken[member])
	for _, p := range batch {
		if p.Member == member {
			next := new(big.Int).Add(big.NewInt(balances[p.Cur]), big.NewInt(p.Amount))
			if !next.IsInt64() {
				return 0, 0, api.ErrOver
			}
			balances[p.Cur] = next.Int64()
		}
	}
	net, one := netOf(m.t, balances)
	short, other := shortOf(m.t, balances)
	if one != api.OK || other != api.OK {
		return 0, 0, api.ErrOver
	}
	return net, short, api.OK
}

// same tells whether the worths tell of each member what the model tells, and of those that there aren't, too.
func (m *model) same(t *testing.T, w *Worths) {
	t.Helper()
	for member := -1; member <= len(m.taken); member++ {
		want, wantErr := m.net(member)
		if got, err := w.Net(member); got != want || err != wantErr {
			t.Fatalf("%v, %v: Net(%d) = %d (%d), not %d (%d)", m.t, m.taken, member, got, err, want, wantErr)
		}
		want, wantErr = m.short(member)
		if got, err := w.Short(member); got != want || err != wantErr {
			t.Fatalf("%v, %v: Short(%d) = %d (%d), not %d (%d)", m.t, m.taken, member, got, err, want, wantErr)
		}
		m.sameIf(t, w, member, nil)
	}
	if got := w.Table(); !slices.Equal(got, m.t) {
		t.Fatalf("Table() = %v, not %v", got, m.t)
	}
}

func (m *model) sameIf(t *testing.T, w *Worths, member int, batch []api.Posting) {
	t.Helper()
	before := slices.Clone(batch)
	wantNet, wantShort, wantErr := m.would(member, batch)
	net, short, err := w.If(member, batch)
	if net != wantNet || short != wantShort || err != wantErr {
		t.Fatalf("%v, %v: If(%d, %v) = %d, %d (%d), not %d, %d (%d)",
			m.t, m.taken, member, batch, net, short, err, wantNet, wantShort, wantErr)
	}
	if !slices.Equal(batch, before) {
		t.Fatalf("If: %v has become %v", before, batch)
	}
}
