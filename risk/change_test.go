package risk

import (
	"strings"
	"testing"

	"nostro/api"
)

// nowhere are numbers of members and currencies of which there are fewer.
func nowhere() []int { return []int{-1, 3, 8, 16, 256, 1 << 32, least, most} }

func TestIn(t *testing.T) {
	g := made(t, three(), laid(t, []int64{-100, 0, 0}, []int64{0, 0, 0}, []int64{-4, -5, 500}), wide(3, 3)...)
	flags(t, "at first", g, true, false, true)
	for _, none := range nowhere() {
		wants(t, "In of no member", g.In(none, 0, 1), api.ErrArg)
		wants(t, "In of no currency", g.In(0, none, 1), api.ErrArg)
		wants(t, "In of no currency, of too much", g.In(1, none, most), api.ErrArg)
	}
	for _, amount := range []int64{0, -1, least} {
		wants(t, "In of an amount below 1", g.In(0, 0, amount), api.ErrArg)
	}
	has(t, "behind wrong calls", g, 0, -100, 0, 0)
	wants(t, "In", g.In(0, 0, 99), api.OK)
	flags(t, "one too few", g, true, false, true)
	wants(t, "In", g.In(2, 2, 1001), api.OK)
	flags(t, "one too few, of another currency", g, true, false, true)
	wants(t, "In", g.In(0, 0, 1), api.OK)
	flags(t, "it passes", g, false, false, true)
	has(t, "behind In", g, 0, 0, 0, 0)
	has(t, "behind In", g, 2, -4, -5, 1501)
	wants(t, "In", g.In(2, 2, 493), api.OK)
	flags(t, "all pass", g, false, false, false)
	if net, err := g.Worths().Net(2); net != 0 || err != api.OK {
		t.Errorf("Net: %d (%d)", net, err)
	}
}

// A pay-in isn't refused for risk: not of one that is flagged, and not of one that stays so.
func TestThatInIsNeverRefusedForRisk(t *testing.T) {
	g := made(t, three(), laid(t, []int64{-1000, -1000, 0}), limit(0, 0, 0, 0))
	for _, amount := range []int64{1, 5, 993, 1, 1000} {
		for cur := range 3 {
			wants(t, "In", g.In(0, cur, amount), api.OK)
		}
		if got, want := g.Flagged(0), g.Ledger().Get(0, 0) < 0; got != want {
			t.Errorf("at %d: flagged %v", g.Ledger().Get(0, 0), got)
		}
	}
}

func TestInOfTooMuch(t *testing.T) {
	double := []api.Currency{{Code: "EUR", Rate: 10000}, {Code: "USD", Rate: 20000}}
	const half = 1 << 62
	for _, c := range []struct {
		what     string
		balances []int64 // of member 0; the other one has nothing
		member   int
		cur      int
		amount   int64
		want     api.Errno
	}{
		{"the greatest amount", []int64{0, 0}, 0, 0, most, api.OK},
		{"a balance that is none", []int64{1, 0}, 0, 0, most, api.ErrOver},
		{"a nostro that is none", []int64{1, 0}, 1, 0, most, api.ErrOver},
		{"the greatest nostro", []int64{1, 0}, 1, 0, most - 1, api.OK},
		{"the greatest worth", []int64{0, 0}, 0, 1, half - 1, api.OK},
		{"a worth that is none", []int64{0, 0}, 0, 1, half, api.ErrOver},
		{"a net worth that is none", []int64{most, 0}, 0, 1, 1, api.ErrOver},
		{"a net worth that was none, and is none", []int64{most, 2}, 0, 1, 1, api.ErrOver},
		{"short by what is none, and still", []int64{0, -half - 5}, 0, 1, 5, api.ErrOver},
		{"short by what is none, and no more", []int64{0, -half - 5}, 0, 1, 6, api.OK},
		{"short by what is none, paid in another currency", []int64{0, -half}, 0, 0, 100, api.ErrOver},
		{"a net worth that was none, and is one", []int64{-most, -1}, 0, 0, 5, api.OK},
	} {
		g := made(t, double, laid(t, c.balances, []int64{0, 0}), wide(2, 2)...)
		m := newModel(double, g.Ledger(), wide(2, 2))
		wants(t, c.what, g.In(c.member, c.cur, c.amount), c.want)
		wants(t, c.what+", by the model", m.in(c.member, c.cur, c.amount), c.want)
		m.same(t, g)
	}
}

func TestOut(t *testing.T) {
	rows := [][]int64{{200, 10, 0}, {-100, 0, 0}, {50, -40, 0}}
	g := made(t, three(), laid(t, rows...), limit(0, 0, 0, 0), limit(0, 0, 0, 0), limit(100, 0, 100, 0))
	flags(t, "at first", g, false, true, true)
	for _, none := range nowhere() {
		wants(t, "Out of no member", g.Out(none, 0, 1), api.ErrArg)
		wants(t, "Out of no currency", g.Out(0, none, 1), api.ErrArg)
		wants(t, "Out of no currency, of one that is flagged", g.Out(1, none, 1), api.ErrArg)
	}
	for _, amount := range []int64{0, -1, least} {
		wants(t, "Out of an amount below 1", g.Out(0, 0, amount), api.ErrArg)
		wants(t, "Out of an amount below 1, of one that is flagged", g.Out(1, 0, amount), api.ErrArg)
	}
	wants(t, "Out of one that is flagged", g.Out(2, 0, 1), api.ErrRisk)
	wants(t, "Out of one that is flagged, and has less", g.Out(1, 0, 1), api.ErrRisk)
	wants(t, "Out of more than the balance", g.Out(0, 1, 11), api.ErrRisk)
	wants(t, "Out of more than the nostro", g.Out(0, 0, 151), api.ErrRisk)
	wants(t, "Out of the greatest amount", g.Out(0, 0, most), api.ErrRisk)
	has(t, "behind wrong calls", g, 0, 200, 10, 0)
	wants(t, "Out, where the nostro is below 0", g.Out(0, 1, 10), api.ErrRisk)
	wants(t, "Out of all of the nostro", g.Out(0, 0, 150), api.OK)
	has(t, "behind Out", g, 0, 50, 10, 0)
	if net, err := g.Worths().Net(0); net != 62 || err != api.OK {
		t.Errorf("Net: %d (%d), not 62", net, err)
	}
	flags(t, "behind Out", g, false, true, true)
}

func TestThatOutLetsNobodyFail(t *testing.T) {
	g := made(t, three(), laid(t, []int64{102, -80, 0}, []int64{0, 80, 0}), limit(100, 0, 80, 0), limit(0, 0, 0, 0))
	flags(t, "at first", g, false, false)
	wants(t, "Out of all that is worth something", g.Out(0, 0, 1), api.ErrRisk)
	wants(t, "In", g.In(0, 0, 5), api.OK)
	wants(t, "Out of one too much", g.Out(0, 0, 6), api.ErrRisk)
	has(t, "behind wrong calls", g, 0, 107, -80, 0)
	wants(t, "Out of just as much", g.Out(0, 0, 5), api.OK)
	has(t, "behind Out", g, 0, 102, -80, 0)
	flags(t, "behind Out", g, false, false)
}

func TestRateAndCutFlag(t *testing.T) {
	rows := [][]int64{{102, -80, 0}, {0, 200, -10000}, {0, 0, 5}}
	g := made(t, three(), laid(t, rows...), limit(110, 0, 100, 0), limit(62, 0, 0, 10000), limit(0, 0, 0, 0))
	flags(t, "at first", g, false, false, false)
	for _, c := range []struct {
		what string
		call func(int, int64) api.Errno
		cur  int
		n    int64
		want []bool
	}{
		{"a haircut of what is owed", g.Cut, 1, 201, []bool{true, false, false}},
		{"and back", g.Cut, 1, 200, []bool{false, false, false}},
		{"what is owed is worth more", g.Rate, 1, 12751, []bool{true, false, false}},
		{"what one has is worth less", g.Rate, 1, 3000, []bool{false, true, false}},
		{"both are well", g.Rate, 1, 12500, []bool{false, false, false}},
		{"short by one more than All", g.Rate, 2, 63, []bool{false, true, false}},
		{"less is owed", g.Rate, 2, 1, []bool{false, false, false}},
		{"a haircut of all", g.Cut, 1, 10000, []bool{true, true, false}},
		{"a haircut that may not be", g.Cut, 1, 10001, []bool{true, true, false}},
		{"none", g.Cut, 1, 0, []bool{false, false, false}},
		{"a rate that may not be", g.Rate, 1, 0, []bool{false, false, false}},
	} {
		want := api.OK
		if strings.Contains(c.what, "may not be") {
			want = api.ErrArg
		}
		wants(t, c.what, c.call(c.cur, c.n), want)
		flags(t, c.what, g, c.want...)
	}
}

func TestTakeIsWithoutATest(t *testing.T) {
	g := made(t, three(), laid(t, []int64{10, 0, 0}, []int64{-1, 0, 0}, []int64{0, 0, 0}), limit(0, 0, 0, 0), limit(0, 0, 0, 0), limit(0, 0, 0, 0))
	flags(t, "at first", g, false, true, false)
	wants(t, "Take of no member", g.Take([]api.Posting{of(3, 0, 1), of(0, 0, -1)}), api.ErrArg)
	wants(t, "Take of no currency", g.Take([]api.Posting{of(1, 3, 1), of(0, 3, -1)}), api.ErrArg)
	wants(t, "Take that isn't even", g.Take([]api.Posting{of(1, 0, 1), of(0, 0, -2)}), api.ErrUnfit)
	wants(t, "Take of too much", g.Take([]api.Posting{of(1, 0, -most), of(0, 0, most)}), api.ErrOver)
	has(t, "behind wrong calls", g, 0, 10, 0, 0)
	flags(t, "behind wrong calls", g, false, true, false)
	wants(t, "Take of nothing", g.Take(nil), api.OK)
	wants(t, "Take of a flagged one", g.Take([]api.Posting{of(1, 0, -7), of(0, 0, 7)}), api.OK)
	has(t, "a flagged one is debited", g, 1, -8, 0, 0)
	wants(t, "Take of one that fails then", g.Take([]api.Posting{of(2, 1, -1), of(0, 1, 1)}), api.OK)
	flags(t, "one fails then", g, false, true, true)
	wants(t, "Take that helps", g.Take([]api.Posting{of(0, 0, -8), of(1, 0, 8), of(2, 1, 1), of(0, 1, -1)}), api.OK)
	flags(t, "nobody fails then", g, false, false, false)
	has(t, "behind all", g, 0, 9, 0, 0)
}

func TestSwapIsWithoutATest(t *testing.T) {
	g := made(t, three(), laid(t, []int64{0, 0, 0}, []int64{100, 50, 0}), limit(50, 0, 0, 0), limit(0, 0, 0, 0))
	for _, none := range nowhere() {
		wants(t, "Swap of no member", g.Swap(none, 1, 0, 1, 1), api.ErrArg)
		wants(t, "Swap for no currency", g.Swap(0, none, 0, 1, 1), api.ErrArg)
		wants(t, "Swap of no currency", g.Swap(0, 1, none, 1, 1), api.ErrArg)
	}
	wants(t, "Swap of one currency", g.Swap(0, 1, 1, 1, 1), api.ErrArg)
	wants(t, "Swap for nothing", g.Swap(0, 1, 0, 0, 1), api.ErrArg)
	wants(t, "Swap of more than the nostro", g.Swap(0, 1, 0, 1, 101), api.ErrRisk)
	wants(t, "Swap for too much", g.Swap(0, 1, 0, most, 1), api.ErrOver)
	has(t, "behind wrong calls", g, 0, 0, 0, 0)
	flags(t, "behind wrong calls", g, false, false)
	wants(t, "Swap", g.Swap(0, 1, 0, 81, 100), api.OK)
	has(t, "behind Swap", g, 0, -100, 81, 0)
	flags(t, "it fails then", g, true, false)
	if g.Ledger().Nostro(0) != 0 || g.Ledger().Nostro(1) != 131 || g.Fails(0, nil) != 7 {
		t.Errorf("%d, %d, fails %d", g.Ledger().Nostro(0), g.Ledger().Nostro(1), g.Fails(0, nil))
	}
	wants(t, "Swap of a flagged one", g.Swap(0, 0, 1, 100, 81), api.OK)
	has(t, "and back", g, 0, 0, 0, 0)
	flags(t, "it passes then", g, false, false)
}

func TestRateAndCutRefuse(t *testing.T) {
	numbers := []int64{least, -1, 0, 1, 62, 9999, 10000, 10001, 12500, 99999999, 100000000, 100000001, most}
	rows := [][]int64{{10, -100, 77777}, {-333, 5000, -1}, {0, 0, 0}}
	limits := []api.Limit{limit(500, 0, 100, 0), limit(1000, 333, 0, 1), limit(0, 0, 0, 0)}
	g := made(t, three(), laid(t, rows...), limits...)
	m := newModel(three(), g.Ledger(), limits)
	for _, cur := range append(nowhere(), 0, 1, 2) {
		for _, n := range numbers {
			wants(t, "Rate", g.Rate(cur, n), m.rate(cur, n))
			m.same(t, g)
			wants(t, "Cut", g.Cut(cur, n), m.cut(cur, n))
			m.same(t, g)
		}
	}
}
