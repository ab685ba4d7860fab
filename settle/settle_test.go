package settle

import (
	"encoding/binary"
	"math"
	"slices"
	"testing"

	"nostro/api"
	"nostro/deal"
	"nostro/ledger"
	"nostro/risk"
)

const (
	most  = math.MaxInt64
	least = math.MinInt64
)

// even is a table of three currencies that are worth the same.
func even() []api.Currency {
	return []api.Currency{{Code: "EUR", Rate: 10000}, {Code: "USD", Rate: 10000}, {Code: "JPY", Rate: 10000}}
}

// laid is a ledger of such balances, member by member, of which each currency's sum must be an amount.
func laid(t *testing.T, rows ...[]int64) *ledger.Ledger {
	t.Helper()
	amounts := make([]int64, len(rows[0])) // the nostros, and the balances behind them
	for _, row := range rows {
		for cur, balance := range row {
			amounts[cur] += balance
		}
		amounts = append(amounts, row...)
	}
	text := []byte{byte(len(rows)), byte(len(rows[0]))}
	for _, amount := range amounts {
		text = binary.BigEndian.AppendUint64(text, uint64(amount))
	}
	l, err := ledger.Read(string(text))
	if err != api.OK {
		t.Fatalf("no ledger has %v: %d", rows, err)
	}
	return l
}

func limit(all int64, shorts ...int64) api.Limit { return api.Limit{Short: shorts, All: all} }

// alike are limits of so many members, by which each may be short by that much, in each of three currencies and in all.
func alike(members int, short int64) []api.Limit {
	return slices.Repeat([]api.Limit{limit(short, short, short, short)}, members)
}

// guarded is a guard of a ledger of such balances.
func guarded(t *testing.T, table []api.Currency, limits []api.Limit, rows ...[]int64) *risk.Guard {
	t.Helper()
	g, err := risk.New(table, laid(t, rows...), limits)
	if err != api.OK {
		t.Fatalf("no guard of %v: %d", rows, err)
	}
	return g
}

// mirror is an instruction as its B tells it.
func mirror(d api.Deal) api.Deal {
	return api.Deal{Id: d.Id, A: d.B, B: d.A, SellCur: d.BuyCur, BuyCur: d.SellCur, Sell: d.Buy, Buy: d.Sell}
}

// book is a book of three currencies, in which these instructions are matched, in that order.
func book(t *testing.T, members int, deals ...api.Deal) *deal.Book {
	t.Helper()
	b, err := deal.New(members, 3)
	wants(t, "deal.New", err, api.OK)
	for _, d := range deals {
		submit(t, b, d, false)
		submit(t, b, mirror(d), true)
	}
	return b
}

// submit hands in an instruction that matches, or is alone.
func submit(t *testing.T, b *deal.Book, d api.Deal, match bool) {
	t.Helper()
	if got, err := b.Submit(d); got != match || err != api.OK {
		t.Fatalf("Submit(%v) = %v, %d", d, got, err)
	}
}

// pays is an instruction by which a pays n of a currency to b, for as much of another one.
func pays(id, a, b, sellCur, buyCur int, n int64) api.Deal {
	return api.Deal{Id: id, A: a, B: b, SellCur: sellCur, BuyCur: buyCur, Sell: n, Buy: n}
}

// wants tells of a call that answered otherwise than it should.
func wants(t *testing.T, what string, got, want api.Errno) {
	t.Helper()
	if got != want {
		t.Errorf("%s: %d, not %d", what, got, want)
	}
}

// lists tells of Ids that are others than they should be, or in another order.
func lists(t *testing.T, what string, got []int, want ...int) {
	t.Helper()
	if !slices.Equal(got, want) {
		t.Errorf("%s: %v, not %v", what, got, want)
	}
}

// has tells where a member's balances are others.
func has(t *testing.T, what string, g *risk.Guard, member int, want ...int64) {
	t.Helper()
	var got []int64
	for cur := range want {
		got = append(got, g.Ledger().Get(member, cur))
	}
	if !slices.Equal(got, want) {
		t.Errorf("%s: member %d has %v, not %v", what, member, got, want)
	}
}

// whole is all that a guard and a book have, as one text.
func whole(g *risk.Guard, b *deal.Book) string {
	text := g.Ledger().Text() + b.Text()
	members, _ := g.Ledger().Size()
	for member := range members {
		if g.Flagged(member) {
			text += "!"
		} else {
			text += "."
		}
	}
	return text
}

func TestLegs(t *testing.T) {
	leg := func(member, cur int, amount int64) api.Posting {
		return api.Posting{Member: member, Cur: cur, Amount: amount}
	}
	for _, c := range []struct {
		d    api.Deal
		want []api.Posting
	}{
		{
			api.Deal{Id: 7, A: 0, B: 1, SellCur: 0, BuyCur: 1, Sell: 100, Buy: 80},
			[]api.Posting{leg(0, 0, -100), leg(1, 0, 100), leg(1, 1, -80), leg(0, 1, 80)},
		},
		{
			api.Deal{Id: 7, A: 1, B: 0, SellCur: 1, BuyCur: 0, Sell: 80, Buy: 100},
			[]api.Posting{leg(1, 1, -80), leg(0, 1, 80), leg(0, 0, -100), leg(1, 0, 100)},
		},
		{
			api.Deal{Id: 1, A: 15, B: 3, SellCur: 7, BuyCur: 2, Sell: 1, Buy: most},
			[]api.Posting{leg(15, 7, -1), leg(3, 7, 1), leg(3, 2, -most), leg(15, 2, most)},
		},
		{
			api.Deal{Id: 1<<31 - 1, A: 4, B: 5, SellCur: 1, BuyCur: 6, Sell: most, Buy: 1},
			[]api.Posting{leg(4, 1, -most), leg(5, 1, most), leg(5, 6, -1), leg(4, 6, 1)},
		},
	} {
		got := Legs(c.d)
		if !slices.Equal(got, c.want) {
			t.Errorf("Legs(%v) = %v, not %v", c.d, got, c.want)
		}
		clear(got)
		if !slices.Equal(Legs(c.d), c.want) {
			t.Errorf("Legs(%v) shares what it told before", c.d)
		}
	}
}

func TestTryOfWhatIsNotMatched(t *testing.T) {
	g := guarded(t, even(), alike(3, 0), []int64{100, 0, 0}, []int64{0, 100, 0}, []int64{0, 0, 100})
	b := book(t, 3, pays(1, 0, 1, 0, 1, 10), pays(2, 0, 1, 0, 1, 10), pays(3, 0, 2, 0, 2, 10))
	submit(t, b, pays(4, 0, 1, 0, 1, 10), false)
	submit(t, b, pays(5, 0, 1, 0, 1, 10), false)
	b.Rescind(0, 5)
	b.Rescind(0, 2)
	b.Rescind(1, 2)
	b.Remove(2)
	b.Settle(1)
	before := whole(g, b)
	for _, c := range []struct {
		what string
		id   int
		want api.Errno
	}{
		{"one that isn't known", 6, api.ErrName},
		{"no Id", 0, api.ErrName},
		{"no Id, below 0", -1, api.ErrName},
		{"one that is settled, with 2^32 more", 1<<32 + 1, api.ErrName},
		{"the greatest Id", 1<<31 - 1, api.ErrName},
		{"the greatest number", most, api.ErrName},
		{"the least number", least, api.ErrName},
		{"one that is alone", 4, api.ErrPhase},
		{"one that was alone, and is gone", 5, api.ErrPhase},
		{"one that was matched, and is gone", 2, api.ErrPhase},
		{"one that was removed", 3, api.ErrPhase},
		{"one that is settled", 1, api.ErrPhase},
	} {
		wants(t, "Try of "+c.what, Try(g, b, c.id), c.want)
		if whole(g, b) != before {
			t.Errorf("Try of %s changed something", c.what)
		}
	}
}

func TestTryOfNothing(t *testing.T) {
	g := guarded(t, even(), alike(2, 0), []int64{10, 0, 0}, []int64{0, 10, 0})
	b := book(t, 2, pays(1, 0, 1, 0, 1, 10))
	before := whole(g, b)
	wants(t, "Try by no guard", Try(nil, b, 1), api.ErrArg)
	wants(t, "Try of no book", Try(g, nil, 1), api.ErrArg)
	for _, c := range []struct {
		g *risk.Guard
		b *deal.Book
	}{{nil, b}, {g, nil}, {nil, nil}} {
		if ids, passes := Cycle(c.g, c.b); len(ids) != 0 || passes != 0 {
			t.Errorf("Cycle of nothing: %v, %d", ids, passes)
		}
	}
	if whole(g, b) != before {
		t.Error("something was changed")
	}
}

// Both legs are held against both members' limits together, as they are booked, or neither is.
func TestTryOfBothLegs(t *testing.T) {
	worth := []api.Currency{{Code: "EUR", Rate: 10000}, {Code: "USD", Rate: 12500, Haircut: 200}, {Code: "JPY", Rate: 62}}
	hundred := api.Deal{Id: 9, A: 0, B: 1, SellCur: 0, BuyCur: 1, Sell: 100, Buy: 80}
	zero := limit(0, 0, 0, 0)
	for _, c := range []struct {
		what   string
		limits []api.Limit
		zero   []int64 // what member 0 has
		one    []int64 // what member 1 has
		want   api.Errno
	}{
		{"both have it", alike(2, 0), []int64{100, 0, 0}, []int64{0, 80, 0}, api.OK},
		{"both have more", alike(2, 0), []int64{101, 5, 1}, []int64{7, 81, 0}, api.OK},
		{"A has one too few", alike(2, 0), []int64{99, 0, 0}, []int64{0, 80, 0}, api.ErrRisk},
		{"B has one too few", alike(2, 0), []int64{100, 0, 0}, []int64{0, 79, 0}, api.ErrRisk},
		{"A has nothing", alike(2, 0), []int64{0, 0, 0}, []int64{0, 80, 0}, api.ErrRisk},
		{"B has nothing", alike(2, 0), []int64{100, 0, 0}, []int64{0, 0, 0}, api.ErrRisk},
		{"both have nothing", alike(2, 0), []int64{0, 0, 0}, []int64{0, 0, 0}, api.ErrRisk},
		{"both have it, the other way round", alike(2, 0), []int64{0, 80, 0}, []int64{100, 0, 0}, api.ErrRisk},
		{"A may be short, and would be worth -1", []api.Limit{limit(100, 100, 0, 0), zero}, []int64{1, 0, 0}, []int64{0, 80, 0}, api.ErrRisk},
		{"A may be short by just as much", []api.Limit{limit(98, 98, 0, 0), zero}, []int64{2, 0, 0}, []int64{0, 80, 0}, api.OK},
		{"A may be short by one less", []api.Limit{limit(98, 97, 0, 0), zero}, []int64{2, 0, 0}, []int64{0, 80, 0}, api.ErrRisk},
		{"A may be short by one less in all", []api.Limit{limit(97, 98, 0, 0), zero}, []int64{2, 0, 0}, []int64{0, 80, 0}, api.ErrRisk},
		{"B may be short", []api.Limit{zero, limit(100, 0, 80, 0)}, []int64{100, 0, 0}, []int64{2, 0, 0}, api.OK},
		{"B may be short, and would be worth -1", []api.Limit{zero, limit(100, 0, 80, 0)}, []int64{100, 0, 0}, []int64{1, 0, 0}, api.ErrRisk},
		{"B may be short by one less", []api.Limit{zero, limit(100, 0, 79, 0)}, []int64{100, 0, 0}, []int64{2, 0, 0}, api.ErrRisk},
		{"A is flagged, and would pass", alike(2, 0), []int64{200, -1, 0}, []int64{0, 80, 0}, api.ErrRisk},
		{"B is flagged, and would pass", alike(2, 0), []int64{100, 0, 0}, []int64{-1, 200, 0}, api.ErrRisk},
		{"A would have more than an amount", alike(2, 0), []int64{100, most - 79, 0}, []int64{0, 79, 0}, api.ErrOver},
		{"B would have more than an amount, and less than it may", alike(2, most), []int64{-1, 0, 0}, []int64{most - 99, 0, 0}, api.ErrOver},
		{"A, that is flagged, would have less than an amount", alike(2, 0), []int64{least + 99, 0, 0}, []int64{most, 80, 0}, api.ErrOver},
		{"A's net worth would be none", alike(2, 0), []int64{most, 0, 0}, []int64{0, 80, 0}, api.OK},
		{"A's net worth would be none, by one more", alike(2, 0), []int64{most, 2, 0}, []int64{0, 80, 0}, api.ErrRisk},
	} {
		g, b := guarded(t, worth, c.limits, c.zero, c.one), book(t, 2, hundred)
		before := whole(g, b)
		wants(t, c.what, Try(g, b, 9), c.want)
		if c.want != api.OK {
			if whole(g, b) != before {
				t.Errorf("%s: something was changed", c.what)
			}
			continue
		}
		has(t, c.what, g, 0, c.zero[0]-100, c.zero[1]+80, c.zero[2])
		has(t, c.what, g, 1, c.one[0]+100, c.one[1]-80, c.one[2])
		if b.State(9) != deal.Settled {
			t.Errorf("%s: state %d", c.what, b.State(9))
		}
		wants(t, c.what+", a second time", Try(g, b, 9), api.ErrPhase)
		has(t, c.what+", a second time", g, 0, c.zero[0]-100, c.zero[1]+80, c.zero[2])
	}
}

// Whichever of both submitted first, the same is booked; one is tried alone, wherever it stands.
func TestTryOfOneAmongOthers(t *testing.T) {
	g := guarded(t, even(), alike(3, 0), []int64{30, 0, 0}, []int64{0, 30, 0}, []int64{0, 0, 0})
	b := book(t, 3, pays(1, 0, 1, 0, 1, 30), pays(8, 0, 1, 0, 1, 10), mirror(pays(3, 0, 1, 0, 1, 7)), pays(5, 0, 1, 0, 1, 1))
	wants(t, "Try of the third", Try(g, b, 3), api.OK)
	has(t, "behind it", g, 0, 23, 7, 0)
	has(t, "behind it", g, 1, 7, 23, 0)
	lists(t, "Matched", b.All(deal.Matched), 1, 8, 5)
	wants(t, "Try of the first", Try(g, b, 1), api.ErrRisk)
	wants(t, "Try of the second", Try(g, b, 8), api.OK)
	has(t, "behind it", g, 0, 13, 17, 0)
	has(t, "behind it", g, 1, 17, 13, 0)
	has(t, "behind all", g, 2, 0, 0, 0)
	lists(t, "Matched", b.All(deal.Matched), 1, 5)
	lists(t, "Settled", b.All(deal.Settled), 8, 3)
}

// One that only one of both asked to rescind is still matched.
func TestTryOfOneThatOneAskedToRescind(t *testing.T) {
	g := guarded(t, even(), alike(2, 0), []int64{10, 0, 0}, []int64{0, 10, 0})
	b := book(t, 2, pays(1, 0, 1, 0, 1, 10))
	if state, err := b.Rescind(1, 1); state != deal.Matched || err != api.OK {
		t.Fatalf("Rescind: %d, %d", state, err)
	}
	wants(t, "Try", Try(g, b, 1), api.OK)
	has(t, "behind it", g, 0, 0, 10, 0)
	if _, err := b.Rescind(0, 1); err != api.ErrPhase || b.State(1) != deal.Settled {
		t.Errorf("Rescind behind it: %d, state %d", err, b.State(1))
	}
}

// A ledger may have more members than the book; of fewer the guard's error is told.
func TestTryOfALedgerOfOtherSize(t *testing.T) {
	b := book(t, 3, pays(1, 2, 1, 0, 1, 10))
	g := guarded(t, even(), alike(4, 0), []int64{0, 0, 0}, []int64{0, 10, 0}, []int64{10, 0, 0}, []int64{5, 5, 5})
	wants(t, "Try, with one member more", Try(g, b, 1), api.OK)
	has(t, "behind it", g, 2, 0, 10, 0)
	has(t, "behind it", g, 3, 5, 5, 5)
	b = book(t, 3, pays(1, 2, 1, 0, 1, 10))
	g = guarded(t, even(), alike(2, 0), []int64{0, 0, 0}, []int64{0, 10, 0})
	before := whole(g, b)
	wants(t, "Try, with one member less", Try(g, b, 1), api.ErrArg)
	if ids, passes := Cycle(g, b); len(ids) != 0 || passes != 1 {
		t.Errorf("Cycle, with one member less: %v, %d", ids, passes)
	}
	if whole(g, b) != before {
		t.Error("something was changed")
	}
}

// A flag holds an instruction back till a pay-in takes it off.
func TestTryBehindAFlag(t *testing.T) {
	g := guarded(t, even(), []api.Limit{limit(50, 0, 50, 0), limit(0, 0, 0, 0)}, []int64{60, -50, 0}, []int64{0, 100, 0})
	b := book(t, 2, pays(1, 0, 1, 0, 1, 40))
	wants(t, "Rate", g.Rate(1, 10400), api.OK)
	wants(t, "Try of one that is flagged", Try(g, b, 1), api.ErrRisk)
	wants(t, "In", g.In(0, 1, 1), api.OK)
	wants(t, "Try of one that is flagged still", Try(g, b, 1), api.ErrRisk)
	wants(t, "In", g.In(0, 1, 1), api.OK)
	wants(t, "Try of one that isn't any more", Try(g, b, 1), api.OK)
	has(t, "behind it", g, 0, 20, -8, 0)
	if short, err := g.Worths().Short(0); short != 9 || err != api.OK {
		t.Errorf("Short: %d (%d), not 9", short, err)
	}
}
