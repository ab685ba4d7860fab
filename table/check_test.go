package table

import (
	"slices"
	"testing"

	"nostro/api"
)

// three is a table that may be: the chapter's example stands at place 1.
func three() []api.Currency {
	return []api.Currency{
		{Code: "EUR", Rate: api.Basis},
		{Code: "USD", Rate: 12500, Haircut: 200},
		{Code: "JPY", Rate: 62, Haircut: 1500},
	}
}

// many is a table of count currencies, each of another Code.
func many(count int) []api.Currency {
	var t []api.Currency
	for place := range count {
		t = append(t, api.Currency{Code: "AA" + string(rune('A'+place)), Rate: api.Basis})
	}
	return t
}

// turned is three, with one of its currencies turned.
func turned(place int, turn func(c *api.Currency)) []api.Currency {
	t := three()
	turn(&t[place])
	return t
}

func withCode(place int, code string) []api.Currency {
	return turned(place, func(c *api.Currency) { c.Code = code })
}

func withRate(place int, rate int64) []api.Currency {
	return turned(place, func(c *api.Currency) { c.Rate = rate })
}

func withCut(place int, cut int64) []api.Currency {
	return turned(place, func(c *api.Currency) { c.Haircut = cut })
}

func checked(t *testing.T, list []api.Currency, want api.Errno) {
	t.Helper()
	before := slices.Clone(list)
	if got := Check(list); got != want {
		t.Errorf("Check(%v) = %d, not %d", list, got, want)
	}
	if !slices.Equal(before, list) {
		t.Errorf("%v has become %v", before, list)
	}
}

func TestCheckHowMany(t *testing.T) {
	checked(t, nil, api.ErrMany)
	checked(t, []api.Currency{}, api.ErrMany)
	for count := 1; count <= api.MostCurrencies; count++ {
		checked(t, many(count), api.OK)
	}
	checked(t, many(api.MostCurrencies+1), api.ErrMany)
	checked(t, many(20), api.ErrMany)
	checked(t, three(), api.OK)
}

func TestCheckCodes(t *testing.T) {
	for place := range three() {
		for _, code := range []string{"AAA", "ZZZ", "AZM", "MAZ"} {
			checked(t, withCode(place, code), api.OK)
		}
		for _, code := range []string{
			"", "A", "AB", "ABCD", "ABCABC",
			"usd", "uSD", "UsD", "USd", "US1", "U D", " US", "US ", "@AA", "A@A", "AA@", "[ZZ", "Z[Z", "ZZ[",
			"\x00\x00\x00", "A\x00B", "\xffAB", "AB\xff", "\xff\xff\xff",
			// capital letters, but not from A to Z: some are three bytes together, some are three letters
			"\u00c4", "\u00c4B", "B\u00c4", "\uff21", "\u00c4\u00d6\u00dc", "\uff21\uff22\uff23", "AB\u00c7",
		} {
			checked(t, withCode(place, code), api.ErrForm)
		}
	}
}

func TestCheckCodesThatAreTheSame(t *testing.T) {
	for _, places := range [][2]int{{0, 1}, {0, 2}, {1, 2}} {
		l := three()
		l[places[1]].Code = l[places[0]].Code
		checked(t, l, api.ErrTwice)
	}
	l := many(api.MostCurrencies)
	l[api.MostCurrencies-1].Code = l[api.MostCurrencies-2].Code
	checked(t, l, api.ErrTwice)
	// The same letters in another order are another Code.
	checked(t, withCode(2, "DUS"), api.OK)
}

func TestCheckRatesAndHaircuts(t *testing.T) {
	for _, place := range []int{1, 2} {
		for _, rate := range []int64{1, 2, api.Basis, api.MostRate - 1, api.MostRate} {
			checked(t, withRate(place, rate), api.OK)
		}
		for _, rate := range []int64{0, -1, -api.Basis, least, api.MostRate + 1, most} {
			checked(t, withRate(place, rate), api.ErrArg)
		}
		for _, cut := range []int64{0, 1, api.Basis - 1, api.Basis} {
			checked(t, withCut(place, cut), api.OK)
		}
		for _, cut := range []int64{-1, -api.Basis, least, api.Basis + 1, most} {
			checked(t, withCut(place, cut), api.ErrArg)
		}
	}
}

func TestCheckTheBase(t *testing.T) {
	checked(t, []api.Currency{{Code: "EUR", Rate: api.Basis}}, api.OK)
	for _, rate := range []int64{0, 1, api.Basis - 1, api.Basis + 1, api.MostRate, -api.Basis} {
		checked(t, withRate(0, rate), api.ErrArg)
		checked(t, []api.Currency{{Code: "EUR", Rate: rate}}, api.ErrArg)
	}
	for _, cut := range []int64{-1, 1, 200, api.Basis, api.Basis + 1} {
		checked(t, withCut(0, cut), api.ErrArg)
		checked(t, []api.Currency{{Code: "EUR", Rate: api.Basis, Haircut: cut}}, api.ErrArg)
	}
}

// Rule R2: what is named first is answered, wherever in the table the other fault stands.
func TestCheckTellsTheFirstNamed(t *testing.T) {
	l := many(api.MostCurrencies + 1)
	l[0].Code, l[1].Code, l[2].Code, l[3].Rate = "eur", "JPY", "JPY", 0
	checked(t, l, api.ErrMany)

	l = three()
	l[0].Rate, l[1].Code, l[2].Code = 0, "EUR", "jpy"
	checked(t, l, api.ErrForm)

	l = three()
	l[0].Code, l[1].Code, l[2].Rate = "jpy", "USD", 0
	checked(t, l, api.ErrForm)

	// two that are the same, and no codes
	l = three()
	l[1].Code, l[2].Code = "usd", "usd"
	checked(t, l, api.ErrForm)

	l = three()
	l[0].Rate, l[1].Haircut, l[2].Code = 5, -1, "USD"
	checked(t, l, api.ErrTwice)

	l = three()
	l[0].Haircut, l[2].Code = 1, "EUR"
	checked(t, l, api.ErrTwice)
}

func TestFind(t *testing.T) {
	l := three()
	for place, currency := range l {
		if got, is := Find(l, currency.Code); got != place || !is {
			t.Errorf("Find %s: %d, %v, not %d", currency.Code, got, is, place)
		}
	}
	for _, code := range []string{"", "U", "US", "USDX", "usd", "GBP", "DUS", "\xff"} {
		if got, is := Find(l, code); got != 0 || is {
			t.Errorf("Find %q: %d, %v, but there is none", code, got, is)
		}
	}
	for _, none := range [][]api.Currency{nil, {}} {
		if got, is := Find(none, "EUR"); got != 0 || is {
			t.Errorf("Find in none: %d, %v", got, is)
		}
	}
	// Find is told of every list, not only of tables that may be: the first one of several.
	l = append(three(), three()...)
	for place, currency := range three() {
		if got, is := Find(l, currency.Code); got != place || !is {
			t.Errorf("the first %s: %d, %v, not %d", currency.Code, got, is, place)
		}
	}
	long := append(many(12), api.Currency{Code: ""})
	if got, is := Find(long, "AAL"); got != 11 || !is {
		t.Errorf("the twelfth of many: %d, %v", got, is)
	}
	if got, is := Find(long, ""); got != 12 || !is {
		t.Errorf("an empty Code that is there: %d, %v", got, is)
	}
}
