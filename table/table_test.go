package table

import (
	"math"
	"math/big"
	"slices"
	"testing"

	"nostro/api"
)

const (
	most  = math.MaxInt64
	least = math.MinInt64

	// fourFifths times 5/4 lies just half a unit above the greatest amount.
	fourFifths = 7378697629483820646
)

type answer struct {
	n   int64
	err api.Errno
}

func told(n int64, err api.Errno) answer { return answer{n, err} }

var (
	over   = answer{0, api.ErrOver}
	absent = answer{0, api.ErrArg}
)

// pair is the base and one more.
func pair(rate, cut int64) []api.Currency {
	return []api.Currency{{Code: "EUR", Rate: api.Basis}, {Code: "USD", Rate: rate, Haircut: cut}}
}

func rates() []int64 {
	return []int64{1, 2, 62, 3333, 9999, api.Basis, 10001, 12500, 20000, 1234567, api.MostRate - 1, api.MostRate}
}

func cuts() []int64 {
	return []int64{0, 1, 200, 3333, 5000, api.Basis - 1, api.Basis}
}

// amounts are some about 0, some between, and both ends, of either sign.
func amounts() []int64 {
	l := []int64{0, least, least + 1, most}
	for _, a := range []int64{1, 2, 3, 7, 99, 100, 101, 9999, 10000, 10001, 99999999, 100000000, 1<<32 + 1,
		922337203685477, 922337203685478, 1<<53 + 1, 1<<62 - 1, 1 << 62, fourFifths, fourFifths + 1, most / 3, most - 1} {
		l = append(l, a, -a)
	}
	return l
}

// quotient is the product of all of l by c, down or up, by whole numbers of any size.
func quotient(c *big.Int, up bool, l ...int64) answer {
	product := big.NewInt(1)
	for _, n := range l {
		product.Mul(product, big.NewInt(n))
	}
	whole, rest := new(big.Int).DivMod(product, c, new(big.Int))
	if up && rest.Sign() != 0 {
		whole.Add(whole, big.NewInt(1))
	}
	if !whole.IsInt64() {
		return over
	}
	return answer{n: whole.Int64()}
}

// worthOf is the document's worth, word by word.
func worthOf(c api.Currency, amount int64) answer {
	cut := -c.Haircut
	if amount < 0 {
		cut = c.Haircut
	}
	return quotient(new(big.Int).Mul(big.NewInt(api.Basis), big.NewInt(api.Basis)), false, amount, c.Rate, api.Basis+cut)
}

func TestWorthAndPlain(t *testing.T) {
	for _, c := range []struct {
		rate, cut, amount int64
		worth, plain      answer
	}{
		// the chapter's example
		{12500, 200, 100, answer{n: 122}, answer{n: 125}},
		{12500, 200, -100, answer{n: -128}, answer{n: -125}},
		// down, above 0 and below it
		{12500, 0, 1, answer{n: 1}, answer{n: 1}},
		{12500, 0, -1, answer{n: -2}, answer{n: -2}},
		{12500, 0, 4, answer{n: 5}, answer{n: 5}},
		{12500, 0, -4, answer{n: -5}, answer{n: -5}},
		// brought down once, not at each of two divisions: 3 * 5000 * 19999 by Basis times Basis is 2.99985
		{5000, 9999, -3, answer{n: -3}, answer{n: -2}},
		{15000, 5000, 3, answer{n: 2}, answer{n: 4}},
		{19999, 5000, 1, answer{n: 0}, answer{n: 1}},
		{19999, 5000, 3, answer{n: 2}, answer{n: 5}},
		// an amount of 0
		{1, 0, 0, answer{}, answer{}},
		{api.MostRate, api.Basis, 0, answer{}, answer{}},
		// a Rate of 1, and of MostRate
		{1, 0, 9999, answer{}, answer{}},
		{1, 0, 10000, answer{n: 1}, answer{n: 1}},
		{1, 0, -1, answer{n: -1}, answer{n: -1}},
		{1, 0, -10001, answer{n: -2}, answer{n: -2}},
		{1, 0, most, answer{n: 922337203685477}, answer{n: 922337203685477}},
		{1, 0, least, answer{n: -922337203685478}, answer{n: -922337203685478}},
		{api.MostRate, 0, 7, answer{n: 70000}, answer{n: 70000}},
		{api.MostRate, 0, most, over, over},
		{api.MostRate, api.Basis, least, over, over},
		// a Haircut of Basis: nothing, or twice as much short
		{api.Basis, api.Basis, most, answer{}, answer{n: most}},
		{api.MostRate, api.Basis, most, answer{}, over},
		{api.Basis, api.Basis, -7, answer{n: -14}, answer{n: -7}},
		{api.Basis, api.Basis, least, over, answer{n: least}},
		{5000, api.Basis, least, answer{n: least}, answer{n: least / 2}},
		{5001, api.Basis, least, over, answer{n: -4612608355631073382}},
		// a Haircut of 0, at the Rate of the base
		{api.Basis, 0, most, answer{n: most}, answer{n: most}},
		{api.Basis, 0, least, answer{n: least}, answer{n: least}},
	} {
		l := pair(c.rate, c.cut)
		if got := told(Worth(l, 1, c.amount)); got != c.worth {
			t.Errorf("Rate %d, Haircut %d: %d is worth %v, not %v", c.rate, c.cut, c.amount, got, c.worth)
		}
		if got := told(Plain(l, 1, c.amount)); got != c.plain {
			t.Errorf("Rate %d: %d is plainly worth %v, not %v", c.rate, c.amount, got, c.plain)
		}
	}
}

// What is worth just an amount, and the next one, which is worth none.
func TestWorthAtTheEnds(t *testing.T) {
	for _, c := range []struct {
		rate, cut, amount int64
		worth             answer
	}{
		{20000, 0, 1<<62 - 1, answer{n: most - 1}},
		{20000, 0, 1 << 62, over},
		{20000, 0, -1 << 62, answer{n: least}},
		{20000, 0, -1<<62 - 1, over},
		{12500, 0, fourFifths, answer{n: most}},
		{12500, 0, fourFifths + 1, over},
		{12500, 0, -fourFifths, answer{n: least}},
		{12500, 0, -fourFifths - 1, over},
		{api.MostRate, 0, 922337203685477, answer{n: 9223372036854770000}},
		{api.MostRate, 0, 922337203685478, over},
		{api.MostRate, 0, -922337203685477, answer{n: -9223372036854770000}},
		{api.MostRate, 0, -922337203685478, over},
		// by the haircut alone: half, and once and a half
		{40000, 5000, 1<<62 - 1, answer{n: most - 1}},
		{40000, 5000, 1 << 62, over},
		{10000, 2500, -fourFifths, answer{n: least}},
		{10000, 2500, -fourFifths - 1, over},
		{10000, 2500, most, answer{n: 6917529027641081855}},
	} {
		l := pair(c.rate, c.cut)
		if got := told(Worth(l, 1, c.amount)); got != c.worth {
			t.Errorf("Rate %d, Haircut %d: %d is worth %v, not %v", c.rate, c.cut, c.amount, got, c.worth)
		}
		if c.cut != 0 {
			continue
		}
		if got := told(Plain(l, 1, c.amount)); got != c.worth {
			t.Errorf("Rate %d: %d is plainly worth %v, not %v", c.rate, c.amount, got, c.worth)
		}
	}
}

func TestWorthAndPlainAreExact(t *testing.T) {
	for _, rate := range rates() {
		for _, cut := range cuts() {
			l := pair(rate, cut)
			for _, amount := range amounts() {
				for cur, c := range l {
					if got, want := told(Worth(l, cur, amount)), worthOf(c, amount); got != want {
						t.Errorf("%d of %v is worth %v, not %v", amount, c, got, want)
					}
					want := quotient(big.NewInt(api.Basis), false, amount, c.Rate)
					if got := told(Plain(l, cur, amount)); got != want {
						t.Errorf("%d of %v is plainly worth %v, not %v", amount, c, got, want)
					}
				}
			}
			if !slices.Equal(l, pair(rate, cut)) {
				t.Errorf("%v has become %v", pair(rate, cut), l)
			}
		}
	}
}

func TestChange(t *testing.T) {
	for _, c := range []struct {
		from, to int
		amount   int64
		down, up answer
	}{
		// nothing is left over
		{0, 1, 100, answer{n: 80}, answer{n: 80}},
		{1, 0, -80, answer{n: -100}, answer{n: -100}},
		{0, 1, 0, answer{}, answer{}},
		{2, 1, -12500, answer{n: -62}, answer{n: -62}},
		// something is
		{0, 1, 1, answer{n: 0}, answer{n: 1}},
		{0, 1, -1, answer{n: -1}, answer{n: 0}},
		{1, 0, 3, answer{n: 3}, answer{n: 4}},
		{1, 0, -3, answer{n: -4}, answer{n: -3}},
		{2, 1, 1000, answer{n: 4}, answer{n: 5}},
		{1, 2, 1, answer{n: 201}, answer{n: 202}},
		// a currency and itself, at both ends
		{1, 1, most, answer{n: most}, answer{n: most}},
		{2, 2, least, answer{n: least}, answer{n: least}},
		// just an amount down, but none up, and the other way round
		{1, 0, fourFifths, answer{n: most}, over},
		{1, 0, fourFifths + 1, over, over},
		{1, 0, -fourFifths, answer{n: least}, answer{n: -most}},
		{1, 0, -fourFifths - 1, over, answer{n: least}},
		{1, 0, -fourFifths - 2, over, over},
		{1, 2, most, over, over},
		{1, 2, least, over, over},
		{2, 1, most, answer{n: 45747925302799688}, answer{n: 45747925302799689}},
	} {
		l := three()
		if got := told(Change(l, c.from, c.to, c.amount, false)); got != c.down {
			t.Errorf("%d of %d in %d, down: %v, not %v", c.amount, c.from, c.to, got, c.down)
		}
		if got := told(Change(l, c.from, c.to, c.amount, true)); got != c.up {
			t.Errorf("%d of %d in %d, up: %v, not %v", c.amount, c.from, c.to, got, c.up)
		}
	}
}

// between is a table of the base and two more, of those Rates. The haircuts are none of Change's business.
func between(from, to int64) []api.Currency {
	return append(pair(from, 5000), api.Currency{Code: "JPY", Rate: to, Haircut: 1})
}

func TestChangeIsExact(t *testing.T) {
	for _, from := range rates() {
		for _, to := range rates() {
			l := between(from, to)
			for _, amount := range amounts() {
				for _, up := range []bool{false, true} {
					want := quotient(big.NewInt(to), up, amount, from)
					if got := told(Change(l, 1, 2, amount, up)); got != want {
						t.Errorf("%d of Rate %d at %d, %v: %v, not %v", amount, from, to, up, got, want)
					}
				}
			}
			if !slices.Equal(l, between(from, to)) {
				t.Errorf("%v has become %v", between(from, to), l)
			}
		}
	}
}

func TestACurrencyThatIsNotThere(t *testing.T) {
	l := three()
	for _, cur := range []int{-1, -2, 3, 4, api.MostCurrencies, math.MinInt, math.MaxInt} {
		for _, amount := range []int64{0, 1, -1} {
			calls := []answer{
				told(Worth(l, cur, amount)), told(Plain(l, cur, amount)),
				told(Change(l, cur, 1, amount, false)), told(Change(l, 1, cur, amount, false)),
				told(Change(l, cur, 1, amount, true)), told(Change(l, 1, cur, amount, true)),
				told(Change(l, cur, cur, amount, true)),
			}
			for place, got := range calls {
				if got != absent {
					t.Errorf("call %d of currency %d: %v", place, cur, got)
				}
			}
		}
		// Where the amount would be too great as well, ErrArg is named first.
		if got := told(Change(l, 1, cur, most, false)); got != absent {
			t.Errorf("the greatest amount in currency %d: %v", cur, got)
		}
		if got := told(Change(l, cur, 2, least, true)); got != absent {
			t.Errorf("the least amount of currency %d: %v", cur, got)
		}
		if got := told(Worth(l, cur, least)); got != absent {
			t.Errorf("the worth of the least amount of currency %d: %v", cur, got)
		}
	}
	// The place behind the last one of a full table, and of the base alone.
	if got := told(Worth(many(api.MostCurrencies), api.MostCurrencies, 1)); got != absent {
		t.Errorf("behind a full table: %v", got)
	}
	if got := told(Worth(many(api.MostCurrencies), api.MostCurrencies-1, 5)); got != (answer{n: 5}) {
		t.Errorf("the last one of a full table: %v", got)
	}
	if got := told(Plain(many(1), 1, 1)); got != absent {
		t.Errorf("behind the base alone: %v", got)
	}
	if got := told(Plain(many(1), 0, 9)); got != (answer{n: 9}) {
		t.Errorf("the base alone: %v", got)
	}
}

// P3.4, of all amounts at which both are told.
func TestNoMoreThanPlainly(t *testing.T) {
	for _, rate := range rates() {
		for _, cut := range cuts() {
			for _, amount := range amounts() {
				worth, err := Worth(pair(rate, cut), 1, amount)
				plain, plainErr := Plain(pair(rate, cut), 1, amount)
				if err == api.OK && plainErr == api.OK && worth > plain {
					t.Errorf("Rate %d, Haircut %d: %d is worth %d, plainly %d", rate, cut, amount, worth, plain)
				}
				if cut == 0 && (worth != plain || err != plainErr) {
					t.Errorf("Rate %d: %d is worth %d (%d), plainly %d (%d)", rate, amount, worth, err, plain, plainErr)
				}
			}
		}
	}
}

func TestAGreaterOneIsWorthNoLess(t *testing.T) {
	rising := slices.Sorted(slices.Values(amounts()))
	for _, rate := range rates() {
		for _, cut := range cuts() {
			last := int64(least)
			for _, amount := range rising {
				worth, err := Worth(pair(rate, cut), 1, amount)
				if err != api.OK {
					continue
				}
				if worth < last {
					t.Errorf("Rate %d, Haircut %d: %d is worth %d, a lesser one %d", rate, cut, amount, worth, last)
				}
				last = worth
			}
		}
	}
}

func TestTwoTogetherAreWorthNoLess(t *testing.T) {
	together := 0
	for _, rate := range rates() {
		for _, cut := range cuts() {
			l := pair(rate, cut)
			for _, a := range amounts() {
				for _, b := range amounts() {
					sum := new(big.Int).Add(big.NewInt(a), big.NewInt(b))
					first, err := Worth(l, 1, a)
					second, err2 := Worth(l, 1, b)
					if err != api.OK || err2 != api.OK || !sum.IsInt64() {
						continue
					}
					both, err := Worth(l, 1, sum.Int64())
					if err != api.OK {
						continue
					}
					together++
					apart := new(big.Int).Add(big.NewInt(first), big.NewInt(second))
					if big.NewInt(both).Cmp(apart) < 0 {
						t.Errorf("Rate %d, Haircut %d: %d and %d: %d together, %d apart", rate, cut, a, b, both, apart)
					}
				}
			}
		}
	}
	if together == 0 {
		t.Error("no two were held against both apart")
	}
}

func TestThereAndBackNoMoreComes(t *testing.T) {
	back := 0
	for _, from := range rates() {
		for _, to := range rates() {
			l := between(from, to)
			for _, went := range amounts() {
				there, err := Change(l, 1, 2, went, false)
				if err != api.OK {
					continue
				}
				came, err := Change(l, 2, 1, there, false)
				if err != api.OK {
					continue
				}
				back++
				if came > went {
					t.Errorf("Rates %d and %d: %d went, %d came", from, to, went, came)
				}
			}
		}
	}
	if back == 0 {
		t.Error("none went there and back")
	}
}
