package settle

import (
	"slices"
	"testing"

	"nostro/api"
	"nostro/deal"
	"nostro/risk"
)

// cycles tells of a Cycle that settled others, or made more passes or fewer, than it should.
func cycles(t *testing.T, what string, g *risk.Guard, b *deal.Book, passes int, want ...int) {
	t.Helper()
	got, made := Cycle(g, b)
	if !slices.Equal(got, want) || made != passes {
		t.Errorf("%s: %v, %d passes, not %v, %d", what, got, made, want, passes)
	}
}

func TestTheChaptersExample(t *testing.T) {
	g := guarded(t, even(), alike(2, 0), []int64{100, 0, 0}, []int64{0, 80, 0})
	b := book(t, 2, api.Deal{Id: 7, A: 0, B: 1, SellCur: 0, BuyCur: 1, Sell: 100, Buy: 80})
	cycles(t, "the example", g, b, 2, 7)
	has(t, "behind it", g, 0, 0, 80, 0)
	has(t, "behind it", g, 1, 100, 0, 0)
	cycles(t, "and once more", g, b, 1)
}

func TestThatOneWaitsForBothLegs(t *testing.T) {
	g := guarded(t, even(), alike(2, 0), []int64{0, 0, 0}, []int64{0, 0, 0})
	b := book(t, 2, api.Deal{Id: 7, A: 0, B: 1, SellCur: 0, BuyCur: 1, Sell: 100, Buy: 80})
	cycles(t, "nobody has paid in", g, b, 1)
	wants(t, "In", g.In(0, 0, 100), api.OK)
	before := whole(g, b)
	cycles(t, "one has paid in", g, b, 1)
	if whole(g, b) != before {
		t.Error("one leg was booked, or something else was changed")
	}
	wants(t, "In", g.In(1, 1, 80), api.OK)
	cycles(t, "both have", g, b, 2, 7)
	has(t, "behind it", g, 0, 0, 80, 0)
	has(t, "behind it", g, 1, 100, 0, 0)
}

func TestThatThereIsAPassWhereNothingIsMatched(t *testing.T) {
	g := guarded(t, even(), alike(2, 0), []int64{100, 100, 0}, []int64{100, 100, 0})
	b := book(t, 2)
	cycles(t, "an empty book", g, b, 1)
	b = book(t, 2, pays(1, 0, 1, 0, 1, 10), pays(2, 0, 1, 0, 1, 10))
	submit(t, b, pays(3, 0, 1, 0, 1, 10), false)
	b.Settle(1)
	b.Remove(0)
	submit(t, b, pays(4, 0, 1, 0, 1, 10), false)
	before := whole(g, b)
	cycles(t, "none that is matched", g, b, 1)
	if whole(g, b) != before {
		t.Error("something was changed")
	}
}

// row is so many instructions, each of which brings member 0 just what it needs for the one behind it, the first one in
// want of 1 of currency 0. Member 1 is to be rich.
func row(long int) []api.Deal {
	var deals []api.Deal
	for at := range long {
		deals = append(deals, api.Deal{
			Id: 100 + at, A: 0, B: 1, SellCur: at % 2, BuyCur: (at + 1) % 2, Sell: int64(at + 1), Buy: int64(at + 2),
		})
	}
	return deals
}

func TestThatThreeWaitForOneAnother(t *testing.T) {
	three := row(3)
	for _, c := range []struct {
		order  []int // in which they are matched
		passes int
	}{
		{[]int{0, 1, 2}, 2},
		{[]int{0, 2, 1}, 3},
		{[]int{1, 0, 2}, 3},
		{[]int{1, 2, 0}, 3},
		{[]int{2, 0, 1}, 3},
		{[]int{2, 1, 0}, 4},
	} {
		var deals []api.Deal
		for _, at := range c.order {
			deals = append(deals, three[at])
		}
		g, b := guarded(t, even(), alike(2, 0), []int64{1, 0, 0}, []int64{10, 10, 0}), book(t, 2, deals...)
		cycles(t, "three in a row", g, b, c.passes, 100, 101, 102)
		has(t, "behind them", g, 0, 0, 4, 0)
		cycles(t, "and once more", g, b, 1)
	}
}

// As many as there may be, each of which waits for the one that was matched behind it: as many passes, and one more.
func TestThatAllWaitForOneAnother(t *testing.T) {
	deals := row(api.MostDeals)
	var want []int
	for _, d := range deals {
		want = append(want, d.Id)
	}
	slices.Reverse(deals)
	g := guarded(t, even(), alike(2, 0), []int64{0, 0, 0}, []int64{1000, 1000, 0})
	b := book(t, 2, deals...)
	cycles(t, "none has what it needs", g, b, 1)
	wants(t, "In", g.In(0, 0, 1), api.OK)
	cycles(t, "the last one has", g, b, api.MostDeals+1, want...)
	has(t, "behind all", g, 0, api.MostDeals+1, 0, 0)
	cycles(t, "and once more", g, b, 1)
}

// The order is that in which they were matched, not that in which they came, nor that of their Ids.
func TestTheOrderOfAPass(t *testing.T) {
	g := guarded(t, even(), alike(2, 0), []int64{10, 0, 0}, []int64{0, 100, 0})
	b := book(t, 2)
	first, second, third := pays(5, 0, 1, 0, 1, 4), pays(9, 0, 1, 0, 1, 4), pays(2, 0, 1, 0, 1, 4)
	for _, d := range []api.Deal{first, second, third} {
		submit(t, b, d, false)
	}
	for _, d := range []api.Deal{second, third, first} {
		submit(t, b, mirror(d), true)
	}
	cycles(t, "of three there is enough for two", g, b, 2, 9, 2)
	lists(t, "Matched", b.All(deal.Matched), 5)
	wants(t, "In", g.In(0, 0, 2), api.OK)
	cycles(t, "now for all", g, b, 2, 5)
}

// One that is settled later in a pass brings what one before it needs: that one's turn is in the next pass, behind all
// others of this one.
func TestThatEachIsTriedOnceAPass(t *testing.T) {
	g := guarded(t, even(), alike(3, 0), []int64{0, 50, 0}, []int64{40, 50, 0}, []int64{0, 50, 0})
	b := book(t, 3,
		pays(1, 0, 2, 0, 1, 10), // needs what 2 brings
		pays(2, 1, 0, 0, 1, 20),
		pays(3, 0, 1, 0, 1, 15), // takes of it ahead of 1's turn
		pays(4, 1, 2, 0, 1, 30),
	)
	cycles(t, "four", g, b, 2, 2, 3, 4)
	has(t, "behind them", g, 0, 5, 45, 0)
	lists(t, "Matched", b.All(deal.Matched), 1)
	wants(t, "In", g.In(0, 0, 5), api.OK)
	cycles(t, "with what it lacks", g, b, 2, 1)
}

// One that can't be settled holds back none that doesn't need what it brings.
func TestThatOneHoldsBackNoOther(t *testing.T) {
	g := guarded(t, even(), alike(3, 0), []int64{20, 0, 0}, []int64{0, 20, 0}, []int64{-1, 0, 0})
	b := book(t, 3, pays(1, 0, 1, 0, 1, 21), pays(2, 2, 1, 1, 0, 1), pays(3, 0, 1, 0, 1, 10), pays(4, 0, 1, 2, 1, 1), pays(5, 1, 0, 1, 0, 10))
	cycles(t, "two of five", g, b, 2, 3, 5)
	lists(t, "Matched", b.All(deal.Matched), 1, 2, 4)
	has(t, "behind them", g, 0, 0, 20, 0)
	has(t, "behind them", g, 1, 20, 0, 0)
}

// In a ring each waits for the other: who may be short of nothing is never settled, who may be is at once.
func TestThatARingNeedsLimits(t *testing.T) {
	ring := []api.Deal{pays(1, 0, 1, 0, 1, 30), pays(2, 1, 2, 0, 1, 30), pays(3, 2, 0, 0, 1, 30)}
	rows := [][]int64{{0, 0, 0}, {0, 0, 0}, {0, 0, 0}}
	b := book(t, 3, ring...)
	cycles(t, "of no limits", guarded(t, even(), alike(3, 0), rows...), b, 1)
	cycles(t, "of limits by one too small", guarded(t, even(), alike(3, 29), rows...), b, 1)
	g := guarded(t, even(), alike(3, 30), rows...)
	cycles(t, "of limits that are just enough", g, b, 2, 1, 2, 3)
	for member := range 3 {
		has(t, "behind it", g, member, 0, 0, 0)
	}
}

func TestThatAFlagHoldsBackACycle(t *testing.T) {
	g := guarded(t, even(), []api.Limit{limit(50, 0, 50, 0), limit(0, 0, 0, 0)}, []int64{60, -50, 0}, []int64{0, 100, 0})
	b := book(t, 2, pays(1, 0, 1, 0, 1, 40), pays(2, 1, 0, 1, 0, 10))
	wants(t, "Rate", g.Rate(1, 10400), api.OK)
	cycles(t, "one is flagged", g, b, 1)
	wants(t, "In", g.In(0, 1, 2), api.OK)
	cycles(t, "it isn't any more", g, b, 2, 1, 2)
	has(t, "behind it", g, 0, 10, 2, 0)
}

// Who ranges over a pass may stop: what wasn't told then is not settled.
func TestThatAPassCanBeStopped(t *testing.T) {
	g := guarded(t, even(), alike(2, 0), []int64{100, 0, 0}, []int64{0, 100, 0})
	b := book(t, 2, pays(1, 0, 1, 0, 1, 1), pays(2, 0, 1, 0, 1, 1), pays(3, 0, 1, 0, 1, 1))
	for id := range pass(g, b) {
		if id == 2 {
			break
		}
	}
	lists(t, "Settled", b.All(deal.Settled), 1, 2)
	has(t, "behind it", g, 0, 98, 2, 0)
}
