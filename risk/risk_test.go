package risk

import (
	"encoding/binary"
	"slices"
	"testing"

	"nostro/api"
	"nostro/ledger"
)

// three is a table whose USD is that of the chapter's example.
func three() []api.Currency {
	return []api.Currency{
		{Code: "EUR", Rate: 10000},
		{Code: "USD", Rate: 12500, Haircut: 200},
		{Code: "JPY", Rate: 62, Haircut: 1000},
	}
}

// laid is a ledger of such balances, member by member, of which each currency's sum must be an amount.
func laid(t *testing.T, rows ...[]int64) *ledger.Ledger {
	t.Helper()
	amounts := make([]int64, len(rows[0])) // the nostros, and the balances behind them
	for _, row := range rows {
		for cur, balance := range row {
			amounts[cur] += balance
		}
		amounts = append(amounts, row...)
	}
	text := []byte{byte(len(rows)), byte(len(rows[0]))}
	for _, amount := range amounts {
		text = binary.BigEndian.AppendUint64(text, uint64(amount))
	}
	l, err := ledger.Read(string(text))
	if err != api.OK {
		t.Fatalf("no ledger has %v: %d", rows, err)
	}
	return l
}

func limit(all int64, shorts ...int64) api.Limit { return api.Limit{Short: shorts, All: all} }

// wide are limits by which nobody is short by too much.
func wide(members, currencies int) []api.Limit {
	var limits []api.Limit
	for range members {
		limits = append(limits, limit(most, slices.Repeat([]int64{most}, currencies)...))
	}
	return limits
}

// made is a guard that may be.
func made(t *testing.T, c []api.Currency, l *ledger.Ledger, limits ...api.Limit) *Guard {
	t.Helper()
	g, err := New(c, l, limits)
	if err != api.OK || g == nil {
		t.Fatalf("New(%v, %v): %d", c, limits, err)
	}
	return g
}

// wants tells of a call that answered otherwise than it should.
func wants(t *testing.T, what string, got, want api.Errno) {
	t.Helper()
	if got != want {
		t.Errorf("%s: %d, not %d", what, got, want)
	}
}

// flags tells where others are flagged than those.
func flags(t *testing.T, what string, g *Guard, want ...bool) {
	t.Helper()
	var got []bool
	for member := range want {
		got = append(got, g.Flagged(member))
	}
	if !slices.Equal(got, want) {
		t.Errorf("%s: flags %v, not %v", what, got, want)
	}
}

// has tells where a member's balances are others.
func has(t *testing.T, what string, g *Guard, member int, want ...int64) {
	t.Helper()
	var got []int64
	for cur := range want {
		got = append(got, g.Ledger().Get(member, cur))
	}
	if !slices.Equal(got, want) {
		t.Errorf("%s: member %d has %v, not %v", what, member, got, want)
	}
}

func of(member, cur int, amount int64) api.Posting {
	return api.Posting{Member: member, Cur: cur, Amount: amount}
}

func TestTheChaptersExample(t *testing.T) {
	g := made(t, three()[:2], laid(t, []int64{10, -60}), limit(50, 0, 100))
	if got := g.Fails(0, nil); got != 5 || !g.Flagged(0) {
		t.Errorf("the example: %d, flagged %v", got, g.Flagged(0))
	}
}

func TestNewRefuses(t *testing.T) {
	fine := limit(3, 1, 2, 0)
	spelt := three()
	spelt[1].Code = "usd"
	for _, c := range []struct {
		what   string
		t      []api.Currency
		l      *ledger.Ledger
		limits []api.Limit
		want   api.Errno
	}{
		{"limits that may be", three(), laid(t, []int64{0, 0, 0}, []int64{0, 0, 0}), []api.Limit{fine, fine}, api.OK},
		{"limits of 0", three(), laid(t, []int64{0, 0, 0}), []api.Limit{limit(0, 0, 0, 0)}, api.OK},
		{"the greatest limits", three(), laid(t, []int64{0, 0, 0}), wide(1, 3), api.OK},
		{"no limits", three(), laid(t, []int64{0, 0, 0}), nil, api.ErrArg},
		{"too few", three(), laid(t, []int64{0, 0, 0}, []int64{0, 0, 0}), []api.Limit{fine}, api.ErrArg},
		{"too many", three(), laid(t, []int64{0, 0, 0}), []api.Limit{fine, fine}, api.ErrArg},
		{"no Shorts", three(), laid(t, []int64{0, 0, 0}), []api.Limit{limit(3)}, api.ErrArg},
		{"a Short too few", three(), laid(t, []int64{0, 0, 0}), []api.Limit{limit(3, 1, 2)}, api.ErrArg},
		{"a Short too many", three(), laid(t, []int64{0, 0, 0}), []api.Limit{limit(3, 1, 2, 3, 4)}, api.ErrArg},
		{"the first Short below 0", three(), laid(t, []int64{0, 0, 0}), []api.Limit{limit(3, -1, 2, 3)}, api.ErrArg},
		{"the last Short below 0", three(), laid(t, []int64{0, 0, 0}), []api.Limit{limit(3, 1, 2, least)}, api.ErrArg},
		{"All below 0", three(), laid(t, []int64{0, 0, 0}), []api.Limit{limit(-1, 1, 2, 3)}, api.ErrArg},
		{"the last one's", three(), laid(t, []int64{0, 0, 0}, []int64{0, 0, 0}), []api.Limit{fine, limit(least, 1, 2, 3)}, api.ErrArg},
		{"no ledger", three(), nil, []api.Limit{fine}, api.ErrArg},
		{"a ledger of fewer currencies", three(), laid(t, []int64{0, 0}), []api.Limit{fine}, api.ErrArg},
		{"no table, and no ledger", nil, nil, nil, api.ErrMany},
		{"a table that may not be, and limits that may not", spelt, laid(t, []int64{0, 0, 0}), nil, api.ErrForm},
	} {
		if g, err := New(c.t, c.l, c.limits); err != c.want || (g == nil) != (err != api.OK) {
			t.Errorf("New of %s: %v, %d, not %d", c.what, g, err, c.want)
		}
	}
}

func TestThatNewFlagsWhoFails(t *testing.T) {
	rows := [][]int64{{0, 0, 0}, {-1, 1, 0}, {-1, 0, 0}, {100, -50, 0}, {100, -51, 0}, {100, -81, 0}, {least + 1, -1, 0}, {most, -60, 0}}
	fine := limit(100, 1, 50, 0)
	g := made(t, three(), laid(t, rows...), fine, fine, fine, fine, fine, limit(100, 0, 81, 0), wide(1, 3)[0], limit(75, 0, 60, 0))
	flags(t, "New", g, false, false, true, false, true, true, true, false)
	for _, none := range []int{-1, 8, 15, 16, 256, 1 << 32, least, most} {
		if g.Flagged(none) {
			t.Errorf("Flagged(%d)", none)
		}
	}
}

func TestThatLimitsAreItsOwn(t *testing.T) {
	limits := []api.Limit{limit(100, 0, 80, 0), limit(0, 0, 0, 0)}
	l, c := laid(t, []int64{200, -80, 0}, []int64{0, 80, 0}), three()
	g := made(t, c, l, limits...)
	if limits[0].All != 100 || !slices.Equal(limits[0].Short, []int64{0, 80, 0}) || !slices.Equal(c, three()) {
		t.Fatalf("New: arguments have become %v, %v", c, limits)
	}
	limits[0].Short[1], limits[1].Short[0], limits[0].All, limits[1].All = 0, most, 0, most
	c[1].Rate = 1
	if g.Fails(0, nil) != 0 || g.Fails(1, []api.Posting{of(1, 0, -1)}) != 6 {
		t.Errorf("%d, %d: it shares limits", g.Fails(0, nil), g.Fails(1, []api.Posting{of(1, 0, -1)}))
	}
	if g.Ledger() != l || g.Worths() == nil || g.Worths() != g.Worths() || !slices.Equal(g.Worths().Table(), three()) {
		t.Error("Ledger and Worths aren't those that it has")
	}
}

func TestFails(t *testing.T) {
	g := made(t, three(), laid(t, []int64{200, 0, 0}, []int64{0, 500, 1000}), limit(100, 0, 100, 50), limit(1000, 50, 0, 0))
	batch := func(batch ...api.Posting) []api.Posting { return batch }
	for _, c := range []struct {
		what   string
		member int
		batch  []api.Posting
		want   int
	}{
		{"nothing", 0, nil, 0},
		{"an empty list", 0, batch(), 0},
		{"short by just All", 0, batch(of(0, 1, -80)), 0},
		{"short by one more than All", 0, batch(of(0, 1, -81)), 4},
		{"a balance at its Short", 0, batch(of(0, 2, -50)), 0},
		{"a balance one below its Short", 0, batch(of(0, 2, -51)), 2},
		{"the last currency's Short alone", 0, batch(of(0, 2, -10000)), 2},
		{"the base's Short, and nothing is left", 0, batch(of(0, 0, -201)), 3},
		{"just nothing is left", 0, batch(of(0, 0, -98), of(0, 1, -80)), 0},
		{"a net worth of -1", 0, batch(of(0, 0, -99), of(0, 1, -80)), 1},
		{"short by too much, of a net worth below 0", 0, batch(of(0, 0, -99), of(0, 1, -81)), 5},
		{"short in two currencies", 0, batch(of(0, 1, -80), of(0, 2, -1)), 4},
		{"both limits", 0, batch(of(0, 1, -101)), 6},
		{"all three", 0, batch(of(0, 1, -200)), 7},
		{"there and back", 0, batch(of(0, 1, -200), of(0, 1, 200)), 0},
		{"another one's postings", 0, batch(of(1, 1, -200), of(1, 0, most)), 0},
		{"postings of one that there isn't", 0, batch(of(2, 1, -200), of(-1, 0, least), of(-1, 0, least)), 0},
		{"its own among another one's", 1, batch(of(0, 0, -500), of(1, 0, -51), of(0, 1, -1)), 2},
		{"its own limits", 1, batch(of(1, 0, -50)), 0},
		{"beyond the greatest amount", 0, batch(of(0, 0, most)), 7},
		{"beyond it and back", 0, batch(of(0, 0, most), of(0, 0, -most)), 7},
		{"below the least one and back", 0, batch(of(0, 1, -most), of(0, 1, -2), of(0, 1, most), of(0, 1, 2)), 7},
		{"beyond it, of another one", 0, batch(of(1, 1, most), of(1, 1, most)), 0},
		{"a net worth that is none", 0, batch(of(0, 0, most-200), of(0, 1, 10)), 7},
		{"a currency that is none", 0, batch(of(0, 3, 1)), 7},
		{"a currency that is none, of another one", 0, batch(of(1, 3, 0)), 7},
		{"a currency that is none, of one that there isn't", 0, batch(of(9, -1, 0)), 7},
		{"a currency that a greater table has", 1, batch(of(1, 7, 1)), 7},
		{"a member that is none", 2, nil, 7},
		{"a member below 0", -1, nil, 7},
		{"the least number", least, batch(of(least, 0, 1)), 7},
		{"the greatest number", most, batch(of(most, 0, 1)), 7},
	} {
		before, text := slices.Clone(c.batch), g.Ledger().Text()
		if got := g.Fails(c.member, c.batch); got != c.want {
			t.Errorf("%s: %d, not %d", c.what, got, c.want)
		}
		if !slices.Equal(before, c.batch) || g.Ledger().Text() != text || g.Flagged(0) || g.Flagged(1) {
			t.Errorf("%s: something was changed", c.what)
		}
	}
}

// What is none fails all tests, also where each limit is as great as may be, and a balance is no less than it.
func TestFailsAtTheEnds(t *testing.T) {
	for _, c := range []struct {
		what     string
		balances []int64
		want     int
	}{
		{"the greatest amount", []int64{most, 0, 0}, 0},
		{"a net worth that is none", []int64{most, 1, 0}, 7},
		{"short by the greatest amount", []int64{-most, 0, 0}, 1},
		{"short by what is none", []int64{least, 0, 0}, 7},
		{"short by what is none, in two currencies", []int64{-most, -1, most}, 7},
		{"a worth that is none", []int64{0, most, 0}, 7},
		{"a plain worth that is none", []int64{0, least, 0}, 7},
		{"the greatest amount of what is worth little", []int64{0, 0, most}, 0},
	} {
		g := made(t, three(), laid(t, c.balances), wide(1, 3)...)
		if got := g.Fails(0, nil); got != c.want || g.Flagged(0) != (c.want != 0) {
			t.Errorf("%s: %d, flagged %v, not %d", c.what, got, g.Flagged(0), c.want)
		}
	}
	one := []api.Currency{{Code: "EUR", Rate: 10000}, {Code: "ONE", Rate: 1}}
	g := made(t, one, laid(t, []int64{most, least}), limit(most, 0, most))
	if got := g.Fails(0, nil); got != 2 {
		t.Errorf("a balance one below the greatest Short: %d, not 2", got)
	}
}

// What is asked is asked of what the ledger has, whoever changed it.
func TestThatTheLedgersBalancesHold(t *testing.T) {
	l := laid(t, []int64{100, 0, 0}, []int64{100, 0, 0})
	g := made(t, three(), l, limit(0, 0, 0, 0), limit(0, 0, 0, 0))
	wants(t, "Post", l.Post([]api.Posting{of(0, 0, -101), of(1, 0, 101)}), api.OK)
	if got := g.Fails(0, nil); got != 7 || g.Flagged(0) {
		t.Errorf("behind a Post: %d, flagged %v", got, g.Flagged(0))
	}
	wants(t, "Out of all", g.Out(1, 0, 99), api.OK)
	wants(t, "Rate", g.Rate(2, 63), api.OK)
	flags(t, "Rate", g, true, false)
	wants(t, "In", l.In(0, 0, 1), api.OK)
	if got := g.Fails(0, nil); got != 0 || !g.Flagged(0) {
		t.Errorf("behind an In: %d, flagged %v", got, g.Flagged(0))
	}
	wants(t, "In", g.In(0, 2, 1), api.OK)
	flags(t, "In", g, false, false)
}
