package risk

import (
	"math"
	"math/big"
	"slices"
	"testing"

	"nostro/api"
	"nostro/ledger"
)

const (
	most  = math.MaxInt64
	least = math.MinInt64
)

// model is a guard as the chapter tells it: worths are reckoned anew by numbers of any size at each call, and each
// change is tried in a copy of the ledger, which is taken if nothing speaks against it.
type model struct {
	t      []api.Currency
	l      *ledger.Ledger
	limits []api.Limit
	flags  []bool
}

func newModel(t []api.Currency, l *ledger.Ledger, limits []api.Limit) *model {
	members, _ := l.Size()
	m := &model{t: slices.Clone(t), l: copied(l), flags: make([]bool, members)}
	for _, limit := range limits {
		m.limits = append(m.limits, api.Limit{Short: slices.Clone(limit.Short), All: limit.All})
	}
	m.flag()
	return m
}

func copied(l *ledger.Ledger) *ledger.Ledger {
	own, err := ledger.Read(l.Text())
	if err != api.OK {
		panic("a ledger's Text is none")
	}
	return own
}

func (m *model) isMember(member int) bool { return 0 <= member && member < len(m.flags) }

func (m *model) isCurrency(cur int) bool { return 0 <= cur && cur < len(m.t) }

// times is the greatest whole number that is no more than n times all factors, by Basis as often as asked.
func times(n *big.Int, bases int, factors ...int64) *big.Int {
	product, divisor := new(big.Int).Set(n), big.NewInt(1)
	for _, factor := range factors {
		product.Mul(product, big.NewInt(factor))
	}
	for range bases {
		divisor.Mul(divisor, big.NewInt(10000))
	}
	return product.Div(product, divisor) // of a divisor above 0 this is down, below 0 too
}

// addedUp adds up one after the other, and tells whether all numbers and sums are amounts.
func addedUp(numbers []*big.Int) (*big.Int, bool) {
	sum, fits := new(big.Int), true
	for _, n := range numbers {
		sum.Add(sum, n)
		fits = fits && n.IsInt64() && sum.IsInt64()
	}
	return sum, fits
}

func (m *model) net(balances []*big.Int) (*big.Int, bool) {
	var worths []*big.Int
	for cur, balance := range balances {
		part := 10000 - m.t[cur].Haircut
		if balance.Sign() < 0 {
			part = 10000 + m.t[cur].Haircut
		}
		worths = append(worths, times(balance, 2, m.t[cur].Rate, part))
	}
	return addedUp(worths)
}

func (m *model) short(balances []*big.Int) (*big.Int, bool) {
	var shorts []*big.Int
	for cur, balance := range balances {
		if balance.Sign() < 0 {
			shorts = append(shorts, new(big.Int).Neg(times(balance, 1, m.t[cur].Rate)))
		}
	}
	return addedUp(shorts)
}

// behind tells the member's balances behind the batch, and whether all on the way are amounts.
func (m *model) behind(member int, batch []api.Posting) ([]*big.Int, bool) {
	var balances []*big.Int
	for cur := range m.t {
		balances = append(balances, big.NewInt(m.l.Get(member, cur)))
	}
	fits := true
	for _, p := range batch {
		if p.Member == member {
			balances[p.Cur].Add(balances[p.Cur], big.NewInt(p.Amount))
			fits = fits && balances[p.Cur].IsInt64()
		}
	}
	return balances, fits
}

func (m *model) fails(member int, batch []api.Posting) int {
	if !m.isMember(member) || slices.ContainsFunc(batch, func(p api.Posting) bool { return !m.isCurrency(p.Cur) }) {
		return 7
	}
	balances, fits := m.behind(member, batch)
	net, isNet := m.net(balances)
	short, isShort := m.short(balances)
	if !fits || !isNet || !isShort {
		return 7
	}
	sum, limit := 0, m.limits[member]
	if net.Sign() < 0 {
		sum++
	}
	for cur, balance := range balances {
		if new(big.Int).Neg(balance).Cmp(big.NewInt(limit.Short[cur])) > 0 {
			sum += 2
			break
		}
	}
	if short.Cmp(big.NewInt(limit.All)) > 0 {
		sum += 4
	}
	return sum
}

func (m *model) flag() {
	for member := range m.flags {
		m.flags[member] = m.fails(member, nil) != 0
	}
}

func (m *model) flagged(member int) bool { return m.isMember(member) && m.flags[member] }

func (m *model) in(member, cur int, amount int64) api.Errno {
	next := copied(m.l)
	if err := next.In(member, cur, amount); err != api.OK {
		return err
	}
	balances, _ := m.behind(member, []api.Posting{of(member, cur, amount)})
	_, isNet := m.net(balances)
	_, isShort := m.short(balances)
	if !isNet || !isShort {
		return api.ErrOver
	}
	m.l = next
	if m.fails(member, nil) == 0 {
		m.flags[member] = false
	}
	return api.OK
}

func (m *model) out(member, cur int, amount int64) api.Errno {
	next := copied(m.l)
	if err := next.Out(member, cur, amount); err != api.OK {
		return err
	}
	if m.flags[member] || m.fails(member, []api.Posting{of(member, cur, -amount)}) != 0 {
		return api.ErrRisk
	}
	m.l = next
	return api.OK
}

func (m *model) book(batch []api.Posting) api.Errno {
	next := copied(m.l)
	if err := next.Post(batch); err != api.OK {
		return err
	}
	for _, p := range batch {
		if m.flags[p.Member] || m.fails(p.Member, batch) != 0 {
			return api.ErrRisk
		}
	}
	m.l = next
	return api.OK
}

func (m *model) take(batch []api.Posting) api.Errno {
	err := m.l.Post(batch)
	if err == api.OK {
		m.flag()
	}
	return err
}

func (m *model) swap(member, get, give int, got, given int64) api.Errno {
	err := m.l.Swap(member, get, give, got, given)
	if err == api.OK {
		m.flag()
	}
	return err
}

func (m *model) rate(cur int, rate int64) api.Errno {
	if !m.isCurrency(cur) || rate < 1 || rate > 100000000 || cur == 0 && rate != 10000 {
		return api.ErrArg
	}
	m.t[cur].Rate = rate
	m.flag()
	return api.OK
}

func (m *model) cut(cur int, cut int64) api.Errno {
	if !m.isCurrency(cur) || cut < 0 || cut > 10000 || cur == 0 && cut != 0 {
		return api.ErrArg
	}
	m.t[cur].Haircut = cut
	m.flag()
	return api.OK
}

// same tells where the guard has, or tells, something else than the model.
func (m *model) same(t *testing.T, g *Guard) {
	t.Helper()
	if got, want := g.Ledger().Text(), m.l.Text(); got != want {
		t.Fatalf("the ledger is %x, not %x", got, want)
	}
	if got := g.Worths().Table(); !slices.Equal(got, m.t) {
		t.Fatalf("the table is %v, not %v", got, m.t)
	}
	for member := -1; member <= len(m.flags); member++ {
		m.sameWorths(t, g, member)
		if got, want := g.Flagged(member), m.flagged(member); got != want {
			t.Fatalf("%v, %x: Flagged(%d) = %v, not %v", m.t, m.l.Text(), member, got, want)
		}
		m.sameFails(t, g, member, nil)
	}
}

// sameWorths tells where the guard's worths aren't of the balances that there are.
func (m *model) sameWorths(t *testing.T, g *Guard, member int) {
	t.Helper()
	if !m.isMember(member) {
		return
	}
	balances, _ := m.behind(member, nil)
	want, fits := m.net(balances)
	if got, err := g.Worths().Net(member); fits != (err == api.OK) || fits && got != want.Int64() {
		t.Fatalf("%v, %v: Net(%d) = %d (%d), not %d", m.t, balances, member, got, err, want)
	}
	want, fits = m.short(balances)
	if got, err := g.Worths().Short(member); fits != (err == api.OK) || fits && got != want.Int64() {
		t.Fatalf("%v, %v: Short(%d) = %d (%d), not %d", m.t, balances, member, got, err, want)
	}
}

func (m *model) sameFails(t *testing.T, g *Guard, member int, batch []api.Posting) {
	t.Helper()
	before := slices.Clone(batch)
	if got, want := g.Fails(member, batch), m.fails(member, batch); got != want {
		t.Fatalf("%v, %v, %x: Fails(%d, %v) = %d, not %d", m.t, m.limits, m.l.Text(), member, batch, got, want)
	}
	if !slices.Equal(batch, before) {
		t.Fatalf("Fails: %v has become %v", before, batch)
	}
}
