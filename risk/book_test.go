package risk

import (
	"slices"
	"testing"

	"nostro/api"
)

// The member 2 is flagged, the others pass; member 0 may owe 100 USD, and 100 EUR's worth in all.
func booked(t *testing.T) *Guard {
	t.Helper()
	g := made(t, three(), laid(t, []int64{200, 0, 0}, []int64{50, 500, 0}, []int64{-1, 1000, 0}),
		limit(100, 0, 100, 0), limit(1000, 50, 0, 0), limit(0, 0, 0, 0))
	flags(t, "at first", g, false, false, true)
	return g
}

func TestBook(t *testing.T) {
	batch := func(batch ...api.Posting) []api.Posting { return batch }
	half := int64(1 << 62)
	for _, c := range []struct {
		what  string
		batch []api.Posting
		want  api.Errno
	}{
		{"nothing", nil, api.OK},
		{"an empty list", batch(), api.OK},
		{"as far as may be", batch(of(0, 1, -80), of(1, 1, 80)), api.OK},
		{"one more than All", batch(of(0, 1, -81), of(1, 1, 81)), api.ErrRisk},
		{"one below a Short, of the one that is named last", batch(of(0, 0, 101), of(1, 0, -101)), api.ErrRisk},
		{"both legs, by which both stay within", batch(of(0, 0, -100), of(1, 0, 100), of(1, 1, -80), of(0, 1, 80)), api.OK},
		{"a leg that fails alone, and doesn't with the other one", batch(of(0, 1, -81), of(1, 1, 81), of(1, 1, -1), of(0, 1, 1)), api.OK},
		{"debited far below, and credited behind it", batch(of(0, 0, -5000), of(1, 0, 5000), of(1, 0, -5000), of(0, 0, 5000)), api.OK},
		{"a flagged one is debited", batch(of(2, 1, -1), of(1, 1, 1)), api.ErrRisk},
		{"a flagged one is credited, and would pass", batch(of(2, 0, 1), of(0, 0, -1)), api.ErrRisk},
		{"a flagged one's posting of 0", batch(of(0, 1, -1), of(1, 1, 1), of(2, 0, 0)), api.ErrRisk},
		{"postings of 0", batch(of(0, 0, 0), of(1, 2, 0)), api.OK},
		{"a net worth that is none", batch(of(1, 1, half*2-501), of(0, 1, -half), of(0, 1, -half+501)), api.ErrRisk},
		{"no member", batch(of(3, 0, 1), of(0, 0, -1)), api.ErrArg},
		{"no member but such", batch(of(-1, 0, 1), of(9, 0, -1)), api.ErrArg},
		{"no currency", batch(of(0, 3, 1), of(1, 3, -1)), api.ErrArg},
		{"no currency, of a flagged one", batch(of(2, -1, 0)), api.ErrArg},
		{"no member, behind one that would fail", batch(of(0, 1, -81), of(1, 1, 81), of(3, 0, 0)), api.ErrArg},
		{"not even", batch(of(0, 1, -1), of(1, 1, 2)), api.ErrUnfit},
		{"not even, of one that would fail", batch(of(0, 1, -500), of(1, 1, 499)), api.ErrUnfit},
		{"not even, of a flagged one", batch(of(2, 1, -1)), api.ErrUnfit},
		{"even of all together, not of each currency", batch(of(0, 1, -1), of(1, 0, 1)), api.ErrUnfit},
		{"a balance that is none", batch(of(0, 0, most), of(1, 0, -most)), api.ErrOver},
		{"a balance on the way that is none", batch(of(0, 0, most), of(0, 0, -most)), api.ErrOver},
		{"the same of a flagged one", batch(of(2, 1, most), of(2, 1, -most)), api.ErrOver},
		{"a balance that is none, of the one named last", batch(of(2, 1, -half), of(0, 1, half), of(2, 1, -half), of(2, 1, half), of(1, 1, half), of(1, 1, half-100), of(0, 1, -half), of(2, 1, -half+100)), api.ErrOver},
		{"the least amount", batch(of(1, 2, least), of(0, 2, most), of(0, 2, 1)), api.ErrOver},
		{"the least amount, from one that has 1", batch(of(1, 1, least), of(0, 1, most), of(0, 1, 1), of(1, 1, most), of(1, 1, 1), of(0, 1, least)), api.ErrOver},
		{"the least amount, that risk refuses", batch(of(0, 2, least), of(1, 2, most), of(2, 2, 1)), api.ErrRisk},
	} {
		g := booked(t)
		m := newModel(three(), g.Ledger(), []api.Limit{limit(100, 0, 100, 0), limit(1000, 50, 0, 0), limit(0, 0, 0, 0)})
		before := slices.Clone(c.batch)
		wants(t, c.what, g.Book(c.batch), c.want)
		wants(t, c.what+", by the model", m.book(c.batch), c.want)
		m.same(t, g)
		if !slices.Equal(before, c.batch) {
			t.Errorf("%s: %v has become %v", c.what, before, c.batch)
		}
	}
}

// What is booked counts for what is booked behind it.
func TestBooksOneBehindTheOther(t *testing.T) {
	g := booked(t)
	for place, want := range []api.Errno{api.OK, api.OK, api.ErrRisk, api.ErrRisk} {
		wants(t, "Book", g.Book([]api.Posting{of(0, 1, -40), of(1, 1, 40)}), want)
		has(t, "behind it", g, 0, 200, int64(-40*min(place+1, 2)), 0)
	}
	wants(t, "In", g.In(2, 0, 1), api.OK)
	wants(t, "Book of one that was flagged", g.Book([]api.Posting{of(2, 1, -40), of(0, 1, 40)}), api.OK)
	has(t, "behind it", g, 2, 0, 960, 0)
	if short, err := g.Worths().Short(0); short != 50 || err != api.OK {
		t.Errorf("Short: %d (%d), not 50", short, err)
	}
	if net, err := g.Worths().Net(2); net != 1176 || err != api.OK {
		t.Errorf("Net: %d (%d), not 1176", net, err)
	}
}

// A long batch ends in time: it isn't gone through anew for each posting.
func TestBookOfMany(t *testing.T) {
	g := booked(t)
	var batch []api.Posting
	for place := range 100000 {
		batch = append(batch, of(place%2, 0, 1), of((place+1)%2, 0, -1))
	}
	wants(t, "Book", g.Book(batch), api.OK)
	has(t, "behind it", g, 0, 200, 0, 0)
	wants(t, "Book", g.Book(append(batch, of(0, 0, 51), of(1, 0, -102), of(0, 0, 51))), api.ErrRisk)
	has(t, "behind it", g, 1, 50, 500, 0)
}
