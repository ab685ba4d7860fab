package ledger

import (
	"math"
	"math/big"
	"testing"

	"nostro/api"
)

const (
	most  = math.MaxInt64
	least = math.MinInt64
)

// model is a ledger as the chapter tells it, by numbers of any size.
type model struct {
	nostros  []*big.Int
	balances [][]*big.Int
}

func newModel(members, currencies int) *model {
	m := &model{nostros: zeros(currencies)}
	for range members {
		m.balances = append(m.balances, zeros(currencies))
	}
	return m
}

func zeros(count int) []*big.Int {
	l := make([]*big.Int, count)
	for place := range l {
		l[place] = new(big.Int)
	}
	return l
}

func more(n *big.Int, amount int64) *big.Int { return new(big.Int).Add(n, big.NewInt(amount)) }

func less(n *big.Int, amount int64) *big.Int { return new(big.Int).Sub(n, big.NewInt(amount)) }

func (m *model) isMember(member int) bool { return 0 <= member && member < len(m.balances) }

func (m *model) isCurrency(cur int) bool { return 0 <= cur && cur < len(m.nostros) }

func (m *model) post(batch []api.Posting) api.Errno {
	sums := zeros(len(m.nostros))
	for _, p := range batch {
		if !m.isMember(p.Member) || !m.isCurrency(p.Cur) {
			return api.ErrArg
		}
		sums[p.Cur] = more(sums[p.Cur], p.Amount)
	}
	for _, sum := range sums {
		if sum.Sign() != 0 {
			return api.ErrUnfit
		}
	}
	for place, p := range batch {
		next := more(m.balances[p.Member][p.Cur], p.Amount)
		if !next.IsInt64() {
			for back := place - 1; back >= 0; back-- {
				q := batch[back]
				m.balances[q.Member][q.Cur] = less(m.balances[q.Member][q.Cur], q.Amount)
			}
			return api.ErrOver
		}
		m.balances[p.Member][p.Cur] = next
	}
	return api.OK
}

func (m *model) in(member, cur int, amount int64) api.Errno {
	if !m.isMember(member) || !m.isCurrency(cur) || amount < 1 {
		return api.ErrArg
	}
	balance, nostro := more(m.balances[member][cur], amount), more(m.nostros[cur], amount)
	if !balance.IsInt64() || !nostro.IsInt64() {
		return api.ErrOver
	}
	m.balances[member][cur], m.nostros[cur] = balance, nostro
	return api.OK
}

func (m *model) out(member, cur int, amount int64) api.Errno {
	if !m.isMember(member) || !m.isCurrency(cur) || amount < 1 {
		return api.ErrArg
	}
	balance, nostro := less(m.balances[member][cur], amount), less(m.nostros[cur], amount)
	if balance.Sign() < 0 || nostro.Sign() < 0 {
		return api.ErrRisk
	}
	m.balances[member][cur], m.nostros[cur] = balance, nostro
	return api.OK
}

func (m *model) swap(member, get, give int, got, given int64) api.Errno {
	if !m.isMember(member) || !m.isCurrency(get) || !m.isCurrency(give) || get == give || got < 1 || given < 1 {
		return api.ErrArg
	}
	if less(m.nostros[give], given).Sign() < 0 {
		return api.ErrRisk
	}
	moreBalance, moreNostro := more(m.balances[member][get], got), more(m.nostros[get], got)
	lessBalance, lessNostro := less(m.balances[member][give], given), less(m.nostros[give], given)
	for _, n := range []*big.Int{moreBalance, moreNostro, lessBalance, lessNostro} {
		if !n.IsInt64() {
			return api.ErrOver
		}
	}
	m.balances[member][get], m.nostros[get] = moreBalance, moreNostro
	m.balances[member][give], m.nostros[give] = lessBalance, lessNostro
	return api.OK
}

func (m *model) text() string {
	modulus := new(big.Int).Lsh(big.NewInt(1), 64)
	text := []byte{byte(len(m.balances)), byte(len(m.nostros))}
	for _, row := range append([][]*big.Int{m.nostros}, m.balances...) {
		for _, n := range row {
			text = append(text, new(big.Int).Mod(n, modulus).FillBytes(make([]byte, 8))...)
		}
	}
	return string(text)
}

// same tells whether the ledger has what the model has, and nothing else.
func (m *model) same(t *testing.T, l *Ledger) {
	t.Helper()
	members, currencies := len(m.balances), len(m.nostros)
	if a, b := l.Size(); a != members || b != currencies {
		t.Fatalf("Size() = %d, %d, not %d, %d", a, b, members, currencies)
	}
	for cur := -1; cur <= currencies; cur++ {
		want := new(big.Int)
		if m.isCurrency(cur) {
			want = m.nostros[cur]
		}
		if got := l.Nostro(cur); want.Cmp(big.NewInt(got)) != 0 {
			t.Fatalf("Nostro(%d) = %d, not %d", cur, got, want)
		}
	}
	for member := -1; member <= members; member++ {
		for cur := -1; cur <= currencies; cur++ {
			want := new(big.Int)
			if m.isMember(member) && m.isCurrency(cur) {
				want = m.balances[member][cur]
			}
			if got := l.Get(member, cur); want.Cmp(big.NewInt(got)) != 0 {
				t.Fatalf("Get(%d, %d) = %d, not %d", member, cur, got, want)
			}
		}
	}
	if got := l.Text(); got != m.text() {
		t.Fatalf("Text() = %x, not %x", got, m.text())
	}
}

// balanced tells whether of each currency the balances are together the nostro.
func (m *model) balanced() bool {
	sums := zeros(len(m.nostros))
	for _, balances := range m.balances {
		for cur, n := range balances {
			sums[cur].Add(sums[cur], n)
		}
	}
	for cur, sum := range sums {
		if sum.Cmp(m.nostros[cur]) != 0 {
			return false
		}
	}
	return true
}
