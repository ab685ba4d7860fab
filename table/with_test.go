package table

import (
	"math"
	"slices"
	"testing"

	"nostro/api"
)

// changer is WithRate, or WithCut.
type changer func(t []api.Currency, cur int, n int64) ([]api.Currency, api.Errno)

func tellsTable(t *testing.T, change changer, l []api.Currency, cur int, n int64, want []api.Currency) {
	t.Helper()
	before := slices.Clone(l)
	got, err := change(l, cur, n)
	if err != api.OK || !slices.Equal(got, want) {
		t.Errorf("%v, currency %d, %d: %v (%d), not %v", before, cur, n, got, err, want)
		return
	}
	if !slices.Equal(l, before) {
		t.Errorf("%v has become %v", before, l)
	}
	for place := range got {
		got[place] = api.Currency{Code: "XXX"}
	}
	if !slices.Equal(l, before) {
		t.Errorf("%v shares memory with what was told of it", before)
	}
}

func refusesTable(t *testing.T, change changer, l []api.Currency, cur int, n int64) {
	t.Helper()
	before := slices.Clone(l)
	got, err := change(l, cur, n)
	if err != api.ErrArg || len(got) != 0 {
		t.Errorf("%v, currency %d, %d: %v (%d), not ErrArg", before, cur, n, got, err)
	}
	if !slices.Equal(l, before) {
		t.Errorf("%v has become %v", before, l)
	}
}

func TestWithRate(t *testing.T) {
	for _, place := range []int{1, 2} {
		for _, rate := range []int64{1, 62, api.Basis, 12500, api.MostRate} {
			tellsTable(t, WithRate, three(), place, rate, withRate(place, rate))
		}
		for _, rate := range []int64{0, -1, least, api.MostRate + 1, most} {
			refusesTable(t, WithRate, three(), place, rate)
		}
	}
	// The base's Rate stays Basis.
	tellsTable(t, WithRate, three(), 0, api.Basis, three())
	tellsTable(t, WithRate, many(1), 0, api.Basis, many(1))
	for _, rate := range []int64{0, 1, api.Basis - 1, api.Basis + 1, api.MostRate} {
		refusesTable(t, WithRate, three(), 0, rate)
		refusesTable(t, WithRate, many(1), 0, rate)
	}
}

func TestWithCut(t *testing.T) {
	for _, place := range []int{1, 2} {
		for _, cut := range []int64{0, 1, 200, api.Basis - 1, api.Basis} {
			tellsTable(t, WithCut, three(), place, cut, withCut(place, cut))
		}
		for _, cut := range []int64{-1, least, api.Basis + 1, most} {
			refusesTable(t, WithCut, three(), place, cut)
		}
	}
	// The base's Haircut stays 0.
	tellsTable(t, WithCut, three(), 0, 0, three())
	tellsTable(t, WithCut, many(1), 0, 0, many(1))
	for _, cut := range []int64{-1, 1, 200, api.Basis} {
		refusesTable(t, WithCut, three(), 0, cut)
		refusesTable(t, WithCut, many(1), 0, cut)
	}
}

func TestWithOfACurrencyThatIsNotThere(t *testing.T) {
	for _, cur := range []int{-1, 3, 4, api.MostCurrencies, math.MinInt, math.MaxInt} {
		refusesTable(t, WithRate, three(), cur, api.Basis)
		refusesTable(t, WithCut, three(), cur, 0)
	}
	full := many(api.MostCurrencies)
	last := api.MostCurrencies - 1
	refusesTable(t, WithRate, full, last+1, api.Basis)
	refusesTable(t, WithCut, full, last+1, 0)
	want := many(api.MostCurrencies)
	want[last].Rate = 5
	tellsTable(t, WithRate, full, last, 5, want)
	want[last].Rate, want[last].Haircut = api.Basis, 7
	tellsTable(t, WithCut, full, last, 7, want)
}

// What is told stands by itself: neither a longer room behind the table, nor what becomes of it later, is seen.
func TestWithTellsATableOfItsOwn(t *testing.T) {
	room := append(three(), api.Currency{Code: "GBP", Rate: 11700})
	for _, change := range []changer{WithRate, WithCut} {
		got, err := change(room[:3], 1, 300)
		if err != api.OK || len(got) != 3 {
			t.Fatalf("%v (%d)", got, err)
		}
		told := slices.Clone(got)
		_ = append(got, api.Currency{Code: "XXX"})
		if room[3].Code != "GBP" {
			t.Errorf("behind the table stands %v", room[3])
		}
		for place := range three() {
			room[place] = api.Currency{}
		}
		if !slices.Equal(got, told) {
			t.Errorf("%v has become %v", told, got)
		}
		copy(room, three())
	}
}

// brokenTables are none that may be, in each of Check's ways; each of their numbers is at an end somewhere.
func brokenTables() [][]api.Currency {
	l := [][]api.Currency{nil, {}, {{}}, many(api.MostCurrencies + 1), withCode(1, "usd"), withCode(2, "EUR")}
	for place := range three() {
		for _, n := range []int64{least, -1, most} {
			l = append(l, withRate(place, n), withCut(place, n))
		}
		l = append(l, withRate(place, 0))
	}
	return l
}

// Of tables that may not be the document tells no answer, yet no call panics, and none changes the table.
func TestNoTablePanics(t *testing.T) {
	for _, l := range brokenTables() {
		if Check(l) == api.OK {
			t.Errorf("%v may be", l)
		}
		before := slices.Clone(l)
		for cur := -1; cur <= len(l); cur++ {
			for _, amount := range amounts() {
				Worth(l, cur, amount)
				Plain(l, cur, amount)
				for to := -1; to <= len(l); to++ {
					Change(l, cur, to, amount, false)
					Change(l, cur, to, amount, true)
				}
				WithRate(l, cur, amount)
				WithCut(l, cur, amount)
			}
		}
		if !slices.Equal(l, before) {
			t.Errorf("%v has become %v", before, l)
		}
	}
}
