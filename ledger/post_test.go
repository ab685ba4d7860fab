package ledger

import (
	"slices"
	"testing"

	"nostro/api"
)

// of is a posting.
func of(member, cur int, amount int64) api.Posting {
	return api.Posting{Member: member, Cur: cur, Amount: amount}
}

func TestPost(t *testing.T) {
	const half = 1 << 62
	for _, c := range []struct {
		name  string
		batch []api.Posting
		want  api.Errno
	}{
		{"none", nil, api.OK},
		{"an empty list", []api.Posting{}, api.OK},
		{"of 0", []api.Posting{of(0, 0, 0)}, api.OK},
		{"two members", []api.Posting{of(0, 0, -5), of(1, 0, 5)}, api.OK},
		{"one member", []api.Posting{of(2, 1, -5), of(2, 1, 5)}, api.OK},
		{"two currencies", []api.Posting{of(0, 0, -5), of(1, 1, -7), of(1, 0, 5), of(0, 1, 7)}, api.OK},
		{"three members", []api.Posting{of(0, 0, -5), of(1, 0, 2), of(2, 0, 3)}, api.OK},
		{"no balance needs be there", []api.Posting{of(0, 0, -most), of(1, 0, most)}, api.OK},
		{"down to the least", []api.Posting{of(0, 0, least), of(1, 0, half), of(2, 0, half)}, api.OK},

		{"a member -1", []api.Posting{of(0, 0, -5), of(-1, 0, 5)}, api.ErrArg},
		{"a member too many", []api.Posting{of(3, 0, -5), of(1, 0, 5)}, api.ErrArg},
		{"a currency -1", []api.Posting{of(0, -1, -5), of(1, -1, 5)}, api.ErrArg},
		{"a currency too many", []api.Posting{of(0, 2, -5), of(1, 2, 5)}, api.ErrArg},
		{"a currency that no ledger has", []api.Posting{of(0, 8, -5), of(1, 8, 5)}, api.ErrArg},
		{"0 of no member", []api.Posting{of(16, 0, 0)}, api.ErrArg},
		{"0 of no currency", []api.Posting{of(0, 2, 0)}, api.ErrArg},
		{"far numbers", []api.Posting{of(most, 0, 0), of(0, least, 0)}, api.ErrArg},

		{"one alone", []api.Posting{of(0, 0, 5)}, api.ErrUnfit},
		{"one too little", []api.Posting{of(0, 0, -5), of(1, 0, 4)}, api.ErrUnfit},
		{"even over currencies, not in each", []api.Posting{of(0, 0, 5), of(1, 1, -5)}, api.ErrUnfit},
		{"the last currency alone isn't", []api.Posting{of(0, 0, 5), of(1, 0, -5), of(1, 1, 1)}, api.ErrUnfit},
		{"the first currency alone isn't", []api.Posting{of(0, 1, 5), of(1, 1, -5), of(1, 0, 1)}, api.ErrUnfit},
		{"the least", []api.Posting{of(0, 0, least)}, api.ErrUnfit},
		{"the least and the greatest", []api.Posting{of(0, 0, least), of(1, 0, most)}, api.ErrUnfit},
		// 2^64, and -2^64, of which the last 64 bits are 0.
		{"that wraps round to 0", []api.Posting{of(0, 0, most), of(1, 0, most), of(2, 0, 2)}, api.ErrUnfit},
		{"that wraps round to 0 from below", []api.Posting{of(0, 0, least), of(1, 0, least)}, api.ErrUnfit},

		// Each balance is an amount, though the sums on the way aren't.
		{"sums that are none", []api.Posting{of(0, 0, most), of(1, 0, most), of(2, 0, -most), of(2, 0, most),
			of(0, 0, -most), of(1, 0, -most)}, api.OK},
		{"a balance that is none at last", []api.Posting{of(0, 0, half), of(0, 0, half), of(1, 0, least)}, api.ErrOver},
		{"a balance that is none on the way", []api.Posting{of(0, 0, most), of(0, 0, 1), of(0, 0, -1), of(1, 0, -most)}, api.ErrOver},
		{"the same ones, put so that each is an amount", []api.Posting{of(0, 0, -1), of(0, 0, 1), of(0, 0, most), of(1, 0, -most)}, api.OK},
		{"below the least on the way", []api.Posting{of(0, 0, least), of(0, 0, -1), of(0, 0, 1), of(1, 0, half), of(2, 0, half)}, api.ErrOver},
		{"only the last one", []api.Posting{of(0, 1, 1), of(1, 1, -1), of(1, 0, -most), of(1, 0, -2), of(2, 0, 2), of(2, 0, most)}, api.ErrOver},

		// Of several errors the one named first.
		{"none, and uneven", []api.Posting{of(0, 0, 5), of(3, 0, 5)}, api.ErrArg},
		{"none, and over", []api.Posting{of(0, 0, most), of(0, 0, most), of(1, 0, -most), of(1, 2, -most)}, api.ErrArg},
		{"uneven, and over", []api.Posting{of(0, 0, most), of(0, 0, most), of(1, 0, -most)}, api.ErrUnfit},
		{"uneven, and over, of two currencies", []api.Posting{of(0, 0, most), of(0, 0, most), of(1, 0, -most), of(2, 0, -most), of(1, 1, 1)}, api.ErrUnfit},
	} {
		l, m := made(t, 3, 2), newModel(3, 2)
		before := slices.Clone(c.batch)
		wants(t, c.name, l.Post(c.batch), c.want)
		wants(t, "the model of "+c.name, m.post(c.batch), c.want)
		m.same(t, l)
		if !slices.Equal(c.batch, before) {
			t.Errorf("%s: %v has become %v", c.name, before, c.batch)
		}
	}
}

func TestThatWhatIsThereCountsOnTheWay(t *testing.T) {
	l := made(t, 2, 2)
	wants(t, "In", l.In(0, 0, most), api.OK)
	wants(t, "one more", l.Post([]api.Posting{of(0, 0, 1), of(0, 0, -1)}), api.ErrOver)
	wants(t, "one less first", l.Post([]api.Posting{of(0, 0, -1), of(0, 0, 1)}), api.OK)
	wants(t, "to the other one", l.Post([]api.Posting{of(0, 0, -most), of(1, 0, most)}), api.OK)
	wants(t, "and one more", l.Post([]api.Posting{of(0, 0, -1), of(1, 0, 1)}), api.ErrOver)
	holds(t, "moved", l, [2]int64{most, 0}, [2]int64{}, [2]int64{most, 0})
}

// A batch of which a later posting fails has let many balances be otherwise on the way.
func TestThatNoneIsDoneWithAnError(t *testing.T) {
	l, m := made(t, api.MostMembers, api.MostCurrencies), newModel(api.MostMembers, api.MostCurrencies)
	var batch []api.Posting
	for member := range api.MostMembers - 1 {
		for cur := range api.MostCurrencies {
			amount := int64(member*100 + cur + 1)
			wants(t, "In", l.In(member, cur, amount), api.OK)
			wants(t, "In", m.in(member, cur, amount), api.OK)
			batch = append(batch, of(member, cur, -1), of(member+1, cur, 1))
		}
	}
	last := api.MostMembers - 1
	bad := append(slices.Clone(batch), of(last, 7, most), of(last, 7, 1), of(last, 7, -1), of(last, 7, -most))
	for _, c := range []struct {
		err   api.Errno
		batch []api.Posting
	}{
		{api.ErrOver, bad},
		{api.ErrUnfit, append(slices.Clone(batch), of(last, 7, 1))},
		{api.ErrArg, append(slices.Clone(batch), of(last+1, 7, 0))},
		{api.ErrArg, append(slices.Clone(batch), of(last, 8, 0))},
	} {
		wants(t, "Post", l.Post(c.batch), c.err)
		m.same(t, l)
	}
	wants(t, "Post", l.Post(batch), api.OK)
	wants(t, "Post", m.post(batch), api.OK)
	m.same(t, l)
}

// The last currency of the greatest table has its place in sums too.
func TestThatABatchMustBeEvenInEachCurrency(t *testing.T) {
	for currencies := 1; currencies <= api.MostCurrencies; currencies++ {
		l := made(t, 2, currencies)
		for cur := range currencies {
			wants(t, "uneven", l.Post([]api.Posting{of(0, cur, 1)}), api.ErrUnfit)
			wants(t, "of two", l.Post([]api.Posting{of(0, cur, 1), of(1, (cur+1)%currencies, -1)}), evenIf(currencies == 1))
			wants(t, "even", l.Post([]api.Posting{of(0, cur, 1), of(1, cur, -1)}), api.OK)
		}
	}
}

func evenIf(is bool) api.Errno {
	if is {
		return api.OK
	}
	return api.ErrUnfit
}

func TestPostOfMany(t *testing.T) {
	const count = 200000
	l := made(t, 2, 1)
	batch := make([]api.Posting, 0, 2*count+1)
	for range count {
		batch = append(batch, of(0, 0, most), of(0, 0, -most))
	}
	wants(t, "there and back", l.Post(batch), api.OK)
	wants(t, "and one", l.Post(append(batch, of(1, 0, 1))), api.ErrUnfit)
	if l.Get(0, 0) != 0 || l.Get(1, 0) != 0 {
		t.Errorf("%d, %d", l.Get(0, 0), l.Get(1, 0))
	}
}
