package worth

import (
	"encoding/binary"
	"slices"
	"testing"

	"nostro/api"
	"nostro/ledger"
)

// three is a table whose USD is that of the chapter's example.
func three() []api.Currency {
	return []api.Currency{
		{Code: "EUR", Rate: 10000},
		{Code: "USD", Rate: 12500, Haircut: 200},
		{Code: "JPY", Rate: 62, Haircut: 1000},
	}
}

// many is a table of so many currencies, whose rates and haircuts differ.
func many(count int) []api.Currency {
	t := []api.Currency{{Code: "AAA", Rate: 10000}}
	for place := 1; place < count; place++ {
		t = append(t, api.Currency{Code: "AA" + string(rune('A'+place)), Rate: int64(3000 * place), Haircut: int64(70 * place)})
	}
	return t
}

// laid is a ledger of such balances, member by member, of which each currency's sum must be an amount.
func laid(t *testing.T, rows ...[]int64) *ledger.Ledger {
	t.Helper()
	nostros := make([]int64, len(rows[0]))
	var text []byte
	for _, row := range rows {
		for cur, balance := range row {
			nostros[cur] += balance
			text = binary.BigEndian.AppendUint64(text, uint64(balance))
		}
	}
	head := []byte{byte(len(rows)), byte(len(nostros))}
	for _, nostro := range nostros {
		head = binary.BigEndian.AppendUint64(head, uint64(nostro))
	}
	l, err := ledger.Read(string(append(head, text...)))
	if err != api.OK {
		t.Fatalf("no ledger has %v: %d", rows, err)
	}
	return l
}

// made is worths that may be.
func made(t *testing.T, currencies []api.Currency, l *ledger.Ledger) *Worths {
	t.Helper()
	w, err := New(currencies, l)
	if err != api.OK || w == nil {
		t.Fatalf("New(%v): %d", currencies, err)
	}
	return w
}

// wants tells of a call that answered otherwise than it should.
func wants(t *testing.T, what string, got, want api.Errno) {
	t.Helper()
	if got != want {
		t.Errorf("%s: %d, not %d", what, got, want)
	}
}

// stands tells where a member's net worth, or what it is short, is another one.
func stands(t *testing.T, what string, w *Worths, member int, net, short int64) {
	t.Helper()
	if got, err := w.Net(member); got != net || err != api.OK {
		t.Errorf("%s: Net(%d) = %d (%d), not %d", what, member, got, err, net)
	}
	if got, err := w.Short(member); got != short || err != api.OK {
		t.Errorf("%s: Short(%d) = %d (%d), not %d", what, member, got, err, short)
	}
}

func of(member, cur int, amount int64) api.Posting {
	return api.Posting{Member: member, Cur: cur, Amount: amount}
}

func TestTheChaptersExample(t *testing.T) {
	w := made(t, three()[:2], laid(t, []int64{10, -100}))
	stands(t, "the example", w, 0, -118, 125)
}

func TestNewOfAllSizes(t *testing.T) {
	for members := 1; members <= api.MostMembers; members++ {
		for currencies := 1; currencies <= api.MostCurrencies; currencies++ {
			var rows [][]int64
			for member := range members {
				row := make([]int64, currencies)
				for cur := range row {
					row[cur] = int64(100*(member+1)) * []int64{1, -1}[(member+cur)%2] * int64(cur+1)
				}
				rows = append(rows, row)
			}
			l := laid(t, rows...)
			for columns := 1; columns <= api.MostCurrencies; columns++ {
				w, err := New(many(columns), l)
				if columns != currencies {
					if w != nil || err != api.ErrArg {
						t.Errorf("New of %d currencies, by a ledger of %d: %v, %d", columns, currencies, w, err)
					}
					continue
				}
				wants(t, "New", err, api.OK)
				newModel(many(columns), l).same(t, w)
			}
		}
	}
}

func TestNewRefuses(t *testing.T) {
	changed := func(place int, to api.Currency) []api.Currency {
		currencies := three()
		currencies[place] = to
		return currencies
	}
	fits := laid(t, []int64{1, 2, 3})
	nine := append(many(8), api.Currency{Code: "ZZZ", Rate: 1})
	for _, c := range []struct {
		what string
		t    []api.Currency
		want api.Errno
	}{
		{"no currency", nil, api.ErrMany},
		{"an empty table", []api.Currency{}, api.ErrMany},
		{"nine currencies", nine, api.ErrMany},
		{"a small letter", changed(1, api.Currency{Code: "USd", Rate: 1}), api.ErrForm},
		{"a code of two", changed(2, api.Currency{Code: "JP", Rate: 1}), api.ErrForm},
		{"a code twice", changed(2, api.Currency{Code: "USD", Rate: 1}), api.ErrTwice},
		{"no rate", changed(1, api.Currency{Code: "USD"}), api.ErrArg},
		{"too great a haircut", changed(1, api.Currency{Code: "USD", Rate: 1, Haircut: 10001}), api.ErrArg},
		{"another base", changed(0, api.Currency{Code: "EUR", Rate: 10001}), api.ErrArg},
		{"none that is wrong", three(), api.OK},
	} {
		// A table's error comes ahead of the ledger's.
		for _, l := range []*ledger.Ledger{fits, nil, laid(t, []int64{1, 2}), laid(t, []int64{1, 2, 3, 4})} {
			want := c.want
			if want == api.OK && l != fits {
				want = api.ErrArg
			}
			if w, err := New(c.t, l); err != want || (w == nil) != (err != api.OK) {
				t.Errorf("New of %s: %v, %d, not %d", c.what, w, err, want)
			}
		}
	}
}

func TestThatTheTableIsTheirOwn(t *testing.T) {
	currencies := three()
	w := made(t, currencies, laid(t, []int64{10, -100, 0}))
	if !slices.Equal(currencies, three()) {
		t.Fatalf("New: the table has become %v", currencies)
	}
	for place := range currencies {
		currencies[place] = api.Currency{Code: "XXX", Rate: 1}
	}
	told := w.Table()
	if !slices.Equal(told, three()) {
		t.Fatalf("Table() = %v, not %v", told, three())
	}
	for place := range told {
		told[place] = api.Currency{Code: "YYY", Rate: 1}
	}
	if again := w.Table(); !slices.Equal(again, three()) {
		t.Errorf("Table() = %v, not %v: it shares memory", again, three())
	}
	w.Moved(0)
	stands(t, "behind changes of others' tables", w, 0, -118, 125)
	before := w.Table()
	wants(t, "Rate", w.Rate(1, 20000), api.OK)
	wants(t, "Cut", w.Cut(1, 0), api.OK)
	if !slices.Equal(before, three()) {
		t.Errorf("Rate and Cut: a table that was told has become %v", before)
	}
}

func TestThatBalancesAreThoseAtMoved(t *testing.T) {
	l := laid(t, []int64{1000, 0, 0}, []int64{0, 400, 10000})
	w := made(t, three(), l)
	batch := []api.Posting{of(0, 1, -100), of(1, 1, 100), of(1, 0, -7), of(0, 0, 7)}
	wants(t, "Post", l.Post(batch), api.OK)
	stands(t, "as at New", w, 0, 1000, 0)
	stands(t, "as at New", w, 1, 490+55, 0)
	w.Moved(0)
	stands(t, "the one of which it was called", w, 0, 1007-128, 125)
	stands(t, "the other one", w, 1, 490+55, 0)
	if net, short, err := w.If(1, []api.Posting{of(1, 0, -1)}); net != 544 || short != 1 || err != api.OK {
		t.Errorf("If: %d, %d (%d): its balances aren't those at New", net, short, err)
	}
	wants(t, "Rate", w.Rate(1, 20000), api.OK)
	stands(t, "a rate leaves balances as they were", w, 0, 1007-204, 200)
	stands(t, "a rate leaves balances as they were", w, 1, 784+55, 0)
	wants(t, "Cut", w.Cut(1, 0), api.OK)
	stands(t, "a haircut leaves balances as they were", w, 0, 1007-200, 200)
	stands(t, "a haircut leaves balances as they were", w, 1, 800+55, 0)
	for _, none := range []int{-1, 2, 15, 16, 1 << 32, least, most} {
		w.Moved(none)
	}
	stands(t, "Moved of those that there aren't", w, 1, 800+55, 0)
	w.Moved(1)
	stands(t, "both", w, 0, 1007-200, 200)
	stands(t, "both", w, 1, 1000+55-7, 7)
}

func TestRateAndCut(t *testing.T) {
	numbers := []int64{least, -1, 0, 1, 61, 62, 63, 9999, 10000, 10001, 99999999, 100000000, 100000001, most}
	l := laid(t, []int64{10, -100, 77777}, []int64{-333, 5000, -1})
	w, m := made(t, three(), l), newModel(three(), l)
	for _, cur := range []int{0, 1, 2, -1, 3, 8, 1 << 32, least, most} {
		for _, n := range numbers {
			wants(t, "Rate", w.Rate(cur, n), m.rate(cur, n))
			m.same(t, w)
			wants(t, "Cut", w.Cut(cur, n), m.cut(cur, n))
			m.same(t, w)
		}
	}
}

func TestThatMembersAreToldByTheirNumbers(t *testing.T) {
	w := made(t, three(), laid(t, []int64{1, 0, 0}, []int64{-2, 0, 0}))
	stands(t, "the first one", w, 0, 1, 0)
	stands(t, "the last one", w, 1, -2, 2)
	for _, none := range []int{-1, 2, 15, 16, 256, 1 << 32, least, most} {
		if got, err := w.Net(none); got != 0 || err != api.ErrArg {
			t.Errorf("Net(%d) = %d (%d)", none, got, err)
		}
		if got, err := w.Short(none); got != 0 || err != api.ErrArg {
			t.Errorf("Short(%d) = %d (%d)", none, got, err)
		}
		if net, short, err := w.If(none, []api.Posting{of(none, 0, 5)}); net != 0 || short != 0 || err != api.ErrArg {
			t.Errorf("If(%d) = %d, %d (%d)", none, net, short, err)
		}
	}
}
