package settle

import (
	"slices"
	"testing"

	"nostro/api"
	"nostro/deal"
	"nostro/ledger"
	"nostro/risk"
)

// model has a guard and a book of its own, that are what others are, and settles in them as the chapter tells.
type model struct {
	g *risk.Guard
	b *deal.Book
}

// modelOf copies a guard, that alone has changed its ledger, and a book.
func modelOf(t *testing.T, g *risk.Guard, b *deal.Book, limits []api.Limit) *model {
	t.Helper()
	l, err := ledger.Read(g.Ledger().Text())
	wants(t, "ledger.Read", err, api.OK)
	members, currencies := l.Size()
	m := &model{}
	m.g, err = risk.New(g.Worths().Table(), l, limits)
	wants(t, "risk.New", err, api.OK)
	m.b, err = deal.Read(b.Text(), members, currencies)
	wants(t, "deal.Read", err, api.OK)
	if whole(m.g, m.b) != whole(g, b) {
		t.Fatalf("the copy is another: %x, not %x", whole(m.g, m.b), whole(g, b))
	}
	return m
}

// legs are an instruction's, from the last one to the first: no account stands among them twice, so the order in which
// they are booked is not to be seen.
func (m *model) legs(id int) []api.Posting {
	d, _ := m.b.Deal(id)
	return []api.Posting{
		{Member: d.A, Cur: d.BuyCur, Amount: d.Buy}, {Member: d.B, Cur: d.BuyCur, Amount: -d.Buy},
		{Member: d.B, Cur: d.SellCur, Amount: d.Sell}, {Member: d.A, Cur: d.SellCur, Amount: -d.Sell},
	}
}

func (m *model) try(id int) api.Errno {
	switch m.b.State(id) {
	case 0:
		return api.ErrName
	case 1, 3, 4:
		return api.ErrPhase
	}
	err := m.g.Book(m.legs(id))
	if err == api.OK {
		m.b.Settle(id)
	}
	return err
}

func (m *model) cycle() ([]int, int) {
	var all []int
	for passes := 1; ; passes++ {
		var now []int
		for _, id := range m.b.All(2) {
			if m.try(id) == api.OK {
				now = append(now, id)
			}
		}
		if len(now) == 0 {
			return all, passes
		}
		all = append(all, now...)
	}
}

// amounts are all balances, and the nostros behind them.
func amounts(l *ledger.Ledger) []int64 {
	members, currencies := l.Size()
	var all []int64
	for member := range members {
		for cur := range currencies {
			all = append(all, l.Get(member, cur))
		}
	}
	for cur := range currencies {
		all = append(all, l.Nostro(cur))
	}
	return all
}

// bothLegs tells where, behind what the model is of, these instructions have not both legs booked, or something else is.
func (m *model) bothLegs(t *testing.T, g *risk.Guard, ids []int) {
	t.Helper()
	want := amounts(m.g.Ledger())
	_, currencies := m.g.Ledger().Size()
	for _, id := range ids {
		for _, p := range m.legs(id) {
			want[p.Member*currencies+p.Cur] += p.Amount
		}
	}
	if got := amounts(g.Ledger()); !slices.Equal(got, want) {
		t.Fatalf("%v are settled: %v, not %v", ids, got, want)
	}
}

// settled tells where others are settled now than those that were and these, or something else than that was changed.
func (m *model) settled(t *testing.T, b *deal.Book, ids []int) {
	t.Helper()
	for id := 1; id <= api.MostDeals; id++ {
		want := m.b.State(id)
		if slices.Contains(ids, id) {
			if want != deal.Matched {
				t.Fatalf("%d was settled, and was %d", id, want)
			}
			want = deal.Settled
		}
		if got := b.State(id); got != want {
			t.Fatalf("%v are settled: the state of %d is %d, not %d", ids, id, got, want)
		}
	}
}

// safe tells where a flag isn't what it was, a flagged member was debited, or one that isn't flagged fails.
func (m *model) safe(t *testing.T, g *risk.Guard) {
	t.Helper()
	members, currencies := g.Ledger().Size()
	for member := range members {
		if g.Flagged(member) != m.g.Flagged(member) {
			t.Fatalf("member %d: flagged %v", member, g.Flagged(member))
		}
		if failed := g.Fails(member, nil); failed != 0 && !g.Flagged(member) {
			t.Fatalf("member %d isn't flagged, and fails %d", member, failed)
		}
		for cur := range currencies {
			if g.Flagged(member) && g.Ledger().Get(member, cur) < m.g.Ledger().Get(member, cur) {
				t.Fatalf("member %d is flagged, and was debited", member)
			}
		}
	}
}
