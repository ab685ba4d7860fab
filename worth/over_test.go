package worth

import (
	"testing"

	"nostro/api"
)

// flat is a table by which, of its two currencies behind the base, an amount is worth itself, and three quarters.
func flat() []api.Currency {
	return []api.Currency{{Code: "EUR", Rate: 10000}, {Code: "USD", Rate: 10000}, {Code: "GBP", Rate: 7500}}
}

// Each of both is told for itself, so that one may be an amount where the other is none.
func TestWhereANumberOnTheWayIsNoAmount(t *testing.T) {
	const half = 1 << 62
	double := []api.Currency{{Code: "EUR", Rate: 10000}, {Code: "USD", Rate: 20000}, {Code: "GBP", Rate: 10000}}
	shorn := []api.Currency{{Code: "EUR", Rate: 10000}, {Code: "USD", Rate: 10000, Haircut: 10000}, {Code: "GBP", Rate: 10000}}
	for _, c := range []struct {
		what             string
		t                []api.Currency
		balances         []int64
		net              int64
		netErr           api.Errno
		short            int64
		shortErr, ifsErr api.Errno
	}{
		{"the greatest amount", flat(), []int64{most, 0, 0}, most, 0, 0, 0, 0},
		{"one more in another currency", flat(), []int64{most, 1, 0}, 0, api.ErrOver, 0, 0, api.ErrOver},
		{"a sum on the way, then less", flat(), []int64{most, 1, -4}, 0, api.ErrOver, 3, 0, api.ErrOver},
		{"less, then as much more", flat(), []int64{most, -1, 1}, most - 1, 0, 1, 0, 0},
		{"less in the base, then more", flat(), []int64{-4, most, 5}, most - 1, 0, 4, 0, 0},
		{"a worth that is none", double, []int64{0, half, 0}, 0, api.ErrOver, 0, 0, api.ErrOver},
		{"a worth that is none, whatever comes on top", double, []int64{-10, half, 0}, 0, api.ErrOver, 10, 0, api.ErrOver},
		{"the greatest worth that is one", double, []int64{0, half - 1, 0}, most - 1, 0, 0, 0, 0},
		{"the least amount's worth", flat(), []int64{least, 0, 0}, least, 0, 0, api.ErrOver, api.ErrOver},
		{"one above it", flat(), []int64{-most, 0, 0}, -most, 0, most, 0, 0},
		{"the least amount, of another currency", double, []int64{0, -half, 0}, least, 0, 0, api.ErrOver, api.ErrOver},
		{"and one less", double, []int64{0, -half - 1, 0}, 0, api.ErrOver, 0, api.ErrOver, api.ErrOver},
		{"two that are short by too much together", flat(), []int64{-most, -1, 0}, least, 0, 0, api.ErrOver, api.ErrOver},
		{"two that are short by the most", flat(), []int64{-most + 1, -1, 0}, -most, 0, most, 0, 0},
		{"short by too much, though there is more", flat(), []int64{-most, most, -2}, -2, 0, 0, api.ErrOver, api.ErrOver},
		{"a haircut that owes twice", shorn, []int64{0, -half - 1, 0}, 0, api.ErrOver, half + 1, 0, api.ErrOver},
		{"a haircut of all", shorn, []int64{most, most, 0}, most, 0, 0, 0, 0},
		{"a sum below the least amount on the way", flat(), []int64{-most, -2, 100}, 0, api.ErrOver, 0, api.ErrOver, api.ErrOver},
	} {
		w := made(t, c.t, laid(t, c.balances))
		if got, err := w.Net(0); got != c.net || err != c.netErr {
			t.Errorf("%s: Net %d (%d), not %d (%d)", c.what, got, err, c.net, c.netErr)
		}
		if got, err := w.Short(0); got != c.short || err != c.shortErr {
			t.Errorf("%s: Short %d (%d), not %d (%d)", c.what, got, err, c.short, c.shortErr)
		}
		net, short, err := w.If(0, nil)
		if err != c.ifsErr || err == api.OK && (net != c.net || short != c.short) || err != api.OK && (net != 0 || short != 0) {
			t.Errorf("%s: If %d, %d (%d)", c.what, net, short, err)
		}
		newModel(c.t, laid(t, c.balances)).same(t, w)
	}
}

// A worth that is none comes back as the rate falls, or the haircut, and as the balance does.
func TestThatWhatWasNoneComesBack(t *testing.T) {
	l := laid(t, []int64{0, 1 << 62, 0}, []int64{0, -1 << 62, 0})
	w, m := made(t, flat(), l), newModel(flat(), l)
	for _, rate := range []int64{10000, 19999, 20000, 100000000, 1, 20001, 19999} {
		wants(t, "Rate", w.Rate(1, rate), m.rate(1, rate))
		m.same(t, w)
	}
	for _, cut := range []int64{0, 1, 9999, 10000, 0, 2} {
		wants(t, "Cut", w.Cut(1, cut), m.cut(1, cut))
		m.same(t, w)
	}
	wants(t, "Rate", w.Rate(1, 100000000), m.rate(1, 100000000))
	wants(t, "Post", l.Post([]api.Posting{of(0, 1, -1<<62), of(1, 1, 1<<62)}), api.OK)
	m.same(t, w)
	for member := range 2 {
		w.Moved(member)
		m.moved(l, member)
		m.same(t, w)
		stands(t, "behind Moved", w, member, 0, 0)
	}
}

func TestThatAllRoundingIsDown(t *testing.T) {
	for _, c := range []struct {
		balances   []int64
		net, short int64
	}{
		{[]int64{0, 100, 0}, 122, 0}, // 122.5
		{[]int64{0, -100, 0}, -128, 125},
		{[]int64{0, -1, 0}, -2, 2},      // -1.275, and -1.25
		{[]int64{0, -1, -1}, -3, 3},     // each is brought down for itself
		{[]int64{0, 0, 161}, 0, 0},      // 0.89838
		{[]int64{0, 0, -161}, -2, 1},    // -1.09802, and -0.9982
		{[]int64{0, 0, -1}, -1, 1},      // -0.00682, and -0.0062
		{[]int64{5, 1, -1}, 5, 1},       // 5, 1, and -1
		{[]int64{-5, 1, -162}, -6, 7},   // -5, 1, and -2; 5, and 2
		{[]int64{-5, -4, 162}, -11, 10}, // -5, -6, and 0; 5, and 5
	} {
		w := made(t, three(), laid(t, c.balances))
		m := newModel(three(), laid(t, c.balances))
		m.same(t, w)
		net, _ := m.net(0)
		short, _ := m.short(0)
		if net != c.net || short != c.short {
			t.Errorf("%v: %d, %d by the model, not %d, %d", c.balances, net, short, c.net, c.short)
		}
	}
}
