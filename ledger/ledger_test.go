package ledger

import (
	"slices"
	"testing"

	"nostro/api"
)

// made is a ledger that may be.
func made(t *testing.T, members, currencies int) *Ledger {
	t.Helper()
	l, err := New(members, currencies)
	if err != api.OK || l == nil {
		t.Fatalf("New(%d, %d): %d", members, currencies, err)
	}
	return l
}

// wants tells of a call that answered otherwise than it should.
func wants(t *testing.T, what string, got, want api.Errno) {
	t.Helper()
	if got != want {
		t.Errorf("%s: %d, not %d", what, got, want)
	}
}

// holds tells where a ledger of two currencies has other nostros, or other balances (member by member).
func holds(t *testing.T, what string, l *Ledger, nostros [2]int64, balances ...[2]int64) {
	t.Helper()
	for cur := range 2 {
		if got := l.Nostro(cur); got != nostros[cur] {
			t.Errorf("%s: nostro %d is %d, not %d", what, cur, got, nostros[cur])
		}
		for member, want := range balances {
			if got := l.Get(member, cur); got != want[cur] {
				t.Errorf("%s: balance %d %d is %d, not %d", what, member, cur, got, want[cur])
			}
		}
	}
}

func TestNewOfAllSizes(t *testing.T) {
	for members := -2; members <= api.MostMembers+2; members++ {
		for currencies := -2; currencies <= api.MostCurrencies+2; currencies++ {
			l, err := New(members, currencies)
			if members < 1 || members > 16 || currencies < 1 || currencies > 8 {
				if l != nil || err != api.ErrArg {
					t.Errorf("New(%d, %d) = %v, %d", members, currencies, l, err)
				}
				continue
			}
			if err != api.OK {
				t.Errorf("New(%d, %d): %d", members, currencies, err)
				continue
			}
			newModel(members, currencies).same(t, l)
		}
	}
	for _, c := range [][2]int{{least, 1}, {1, least}, {most, 1}, {1, most}, {1 << 32, 1}, {1, 1 << 32}, {257, 1}, {1, 257}} {
		if l, err := New(c[0], c[1]); l != nil || err != api.ErrArg {
			t.Errorf("New(%d, %d) = %v, %d", c[0], c[1], l, err)
		}
	}
}

func TestGetAndNostroWhereThereIsNone(t *testing.T) {
	l := made(t, 2, 2)
	for member := range 2 {
		for cur := range 2 {
			wants(t, "In", l.In(member, cur, 7), api.OK)
		}
	}
	for _, none := range []int{-1, 2, 3, 7, 8, 15, 16, 255, 256, 1 << 32, least, most} {
		if got := l.Get(none, 0); got != 0 {
			t.Errorf("Get(%d, 0) = %d", none, got)
		}
		if got := l.Get(0, none); got != 0 {
			t.Errorf("Get(0, %d) = %d", none, got)
		}
		if got := l.Get(none, none); got != 0 {
			t.Errorf("Get(%d, %d) = %d", none, none, got)
		}
		if got := l.Nostro(none); got != 0 {
			t.Errorf("Nostro(%d) = %d", none, got)
		}
	}
	holds(t, "asked", l, [2]int64{14, 14}, [2]int64{7, 7}, [2]int64{7, 7})
}

func TestThatTheExamplesHold(t *testing.T) {
	l := made(t, 2, 2)
	wants(t, "In", l.In(0, 1, 50), api.OK)
	holds(t, "paid in", l, [2]int64{0, 50}, [2]int64{0, 50}, [2]int64{})
	wants(t, "Post", l.Post([]api.Posting{{Member: 0, Cur: 1, Amount: -20}, {Member: 1, Cur: 1, Amount: 20}}), api.OK)
	holds(t, "posted", l, [2]int64{0, 50}, [2]int64{0, 30}, [2]int64{0, 20})
}

func TestInAtTheEnds(t *testing.T) {
	l := made(t, 2, 2)
	for _, amount := range []int64{0, -1, -most, least} {
		wants(t, "an amount below 1", l.In(0, 0, amount), api.ErrArg)
	}
	for _, none := range []int{-1, 2, 16, least, most} {
		wants(t, "no member", l.In(none, 0, 1), api.ErrArg)
		wants(t, "no currency", l.In(0, none, 1), api.ErrArg)
	}
	holds(t, "refused", l, [2]int64{}, [2]int64{}, [2]int64{})

	wants(t, "all but one", l.In(0, 0, most-1), api.OK)
	wants(t, "two more", l.In(0, 0, 2), api.ErrOver)
	holds(t, "two more", l, [2]int64{most - 1, 0}, [2]int64{most - 1, 0}, [2]int64{})
	wants(t, "one more", l.In(0, 0, 1), api.OK)
	// Only the nostro is too great for the other member's.
	wants(t, "the nostro is full", l.In(1, 0, 1), api.ErrOver)
	wants(t, "of no currency", l.In(1, 2, 1), api.ErrArg)
	wants(t, "another currency", l.In(1, 1, 1), api.OK)
	holds(t, "full", l, [2]int64{most, 1}, [2]int64{most, 0}, [2]int64{0, 1})

	// Only the balance is too great: the other one owes as much.
	l = made(t, 2, 2)
	wants(t, "Post", l.Post([]api.Posting{{Member: 0, Amount: most}, {Member: 1, Amount: -most}}), api.OK)
	wants(t, "the balance is full", l.In(0, 0, 1), api.ErrOver)
	holds(t, "full", l, [2]int64{}, [2]int64{most, 0}, [2]int64{-most, 0})
	wants(t, "who owes", l.In(1, 0, most), api.OK)
	holds(t, "paid", l, [2]int64{most, 0}, [2]int64{most, 0}, [2]int64{})
}

func TestOutAtTheEnds(t *testing.T) {
	l := made(t, 2, 2)
	wants(t, "In", l.In(0, 0, 10), api.OK)
	wants(t, "In", l.In(1, 0, 10), api.OK)
	for _, amount := range []int64{0, -1, -10, least} {
		wants(t, "an amount below 1", l.Out(0, 0, amount), api.ErrArg)
	}
	for _, none := range []int{-1, 2, 16, least, most} {
		// Neither is there so much: ErrArg is named first.
		wants(t, "no member", l.Out(none, 0, most), api.ErrArg)
		wants(t, "no currency", l.Out(0, none, most), api.ErrArg)
	}
	wants(t, "more than the balance", l.Out(0, 0, 11), api.ErrRisk)
	wants(t, "more than the nostro", l.Out(0, 0, 21), api.ErrRisk)
	wants(t, "the greatest", l.Out(0, 0, most), api.ErrRisk)
	wants(t, "of another currency", l.Out(0, 1, 1), api.ErrRisk)
	holds(t, "refused", l, [2]int64{20, 0}, [2]int64{10, 0}, [2]int64{10, 0})
	wants(t, "the balance", l.Out(0, 0, 10), api.OK)
	holds(t, "paid out", l, [2]int64{10, 0}, [2]int64{}, [2]int64{10, 0})
	wants(t, "of none", l.Out(0, 0, 1), api.ErrRisk)

	// The other one owes: the balance is more than the nostro.
	wants(t, "Post", l.Post([]api.Posting{{Member: 0, Amount: -5}, {Member: 1, Amount: 5}}), api.OK)
	wants(t, "of less than 0", l.Out(0, 0, 1), api.ErrRisk)
	wants(t, "more than the nostro", l.Out(1, 0, 11), api.ErrRisk)
	holds(t, "refused", l, [2]int64{10, 0}, [2]int64{-5, 0}, [2]int64{15, 0})
	wants(t, "the nostro", l.Out(1, 0, 10), api.OK)
	holds(t, "paid out", l, [2]int64{}, [2]int64{-5, 0}, [2]int64{5, 0})
}

func TestSwapOfWrongArguments(t *testing.T) {
	l := made(t, 2, 2)
	wants(t, "In", l.In(0, 1, 10), api.OK)
	for _, none := range []int{-1, 2, 16, least, most} {
		// What is given isn't there either, but ErrArg is named first.
		wants(t, "no member", l.Swap(none, 0, 1, 1, most), api.ErrArg)
		wants(t, "got of no currency", l.Swap(0, none, 1, 1, most), api.ErrArg)
		wants(t, "given of no currency", l.Swap(0, 0, none, 1, most), api.ErrArg)
		wants(t, "both of none", l.Swap(0, none, none, 1, 1), api.ErrArg)
	}
	for cur := range 2 {
		wants(t, "one currency", l.Swap(0, cur, cur, 1, 1), api.ErrArg)
	}
	for _, amount := range []int64{0, -1, -most, least} {
		wants(t, "got below 1", l.Swap(0, 0, 1, amount, 1), api.ErrArg)
		wants(t, "given below 1", l.Swap(0, 0, 1, 1, amount), api.ErrArg)
	}
	holds(t, "refused", l, [2]int64{0, 10}, [2]int64{0, 10}, [2]int64{})
}

func TestSwapAtTheEnds(t *testing.T) {
	l := made(t, 3, 2)
	wants(t, "In", l.In(0, 1, 10), api.OK)
	wants(t, "more than the nostro", l.Swap(0, 0, 1, 7, 11), api.ErrRisk)
	wants(t, "of an empty nostro", l.Swap(0, 1, 0, 7, 1), api.ErrRisk)
	wants(t, "the greatest", l.Swap(0, 0, 1, most, most), api.ErrRisk)
	holds(t, "refused", l, [2]int64{0, 10}, [2]int64{0, 10}, [2]int64{}, [2]int64{})
	// Who gives needn't have it: only the nostro must.
	wants(t, "the nostro", l.Swap(1, 0, 1, 7, 10), api.OK)
	holds(t, "swapped", l, [2]int64{7, 0}, [2]int64{0, 10}, [2]int64{7, -10}, [2]int64{})

	wants(t, "back", l.Swap(1, 1, 0, 10, 7), api.OK)
	holds(t, "back", l, [2]int64{0, 10}, [2]int64{0, 10}, [2]int64{}, [2]int64{})
	wants(t, "all", l.Swap(0, 0, 1, most, 1), api.OK)
	holds(t, "all", l, [2]int64{most, 9}, [2]int64{most, 9}, [2]int64{}, [2]int64{})
	// The nostro of what is got is full, whereas the balance isn't.
	wants(t, "the nostro is full", l.Swap(1, 0, 1, 1, 9), api.ErrOver)
	wants(t, "of less than there is", l.Swap(1, 0, 1, 1, 10), api.ErrRisk)
	holds(t, "refused", l, [2]int64{most, 9}, [2]int64{most, 9}, [2]int64{}, [2]int64{})
}

func TestSwapOfBalancesThatWouldBeNone(t *testing.T) {
	l := made(t, 3, 2)
	wants(t, "In", l.In(0, 1, 10), api.OK)
	wants(t, "Post", l.Post([]api.Posting{
		{Member: 1, Cur: 0, Amount: most}, {Member: 2, Cur: 0, Amount: -most},
		{Member: 2, Cur: 1, Amount: most - 9}, {Member: 1, Cur: 1, Amount: -most + 9},
	}), api.OK)
	// Of member 1 the balance got is full; given would leave it at the least amount, and one more beyond it.
	wants(t, "the balance got is full", l.Swap(1, 0, 1, 1, 1), api.ErrOver)
	holds(t, "refused", l, [2]int64{0, 10}, [2]int64{0, 10}, [2]int64{most, -most + 9}, [2]int64{-most, most - 9})
	wants(t, "Post", l.Post([]api.Posting{{Member: 1, Cur: 0, Amount: -5}, {Member: 2, Cur: 0, Amount: 5}}), api.OK)
	wants(t, "down to the least", l.Swap(1, 0, 1, 4, 10), api.OK)
	holds(t, "the least", l, [2]int64{4, 0}, [2]int64{0, 10}, [2]int64{most - 1, least}, [2]int64{-most + 5, most - 9})
	wants(t, "In", l.In(0, 1, 5), api.OK)
	wants(t, "below the least", l.Swap(1, 0, 1, 1, 1), api.ErrOver)
	holds(t, "refused", l, [2]int64{4, 5}, [2]int64{0, 15}, [2]int64{most - 1, least}, [2]int64{-most + 5, most - 9})
}

func TestLedgersShareNothing(t *testing.T) {
	a, b := made(t, 2, 2), made(t, 2, 2)
	wants(t, "In", a.In(0, 0, 5), api.OK)
	c, err := Read(a.Text())
	wants(t, "Read", err, api.OK)
	wants(t, "Post", a.Post([]api.Posting{{Member: 0, Amount: -5}, {Member: 1, Amount: 5}}), api.OK)
	wants(t, "Out", a.Out(1, 0, 5), api.OK)
	wants(t, "In", c.In(1, 1, 3), api.OK)
	holds(t, "a", a, [2]int64{}, [2]int64{}, [2]int64{})
	holds(t, "b", b, [2]int64{}, [2]int64{}, [2]int64{})
	holds(t, "c", c, [2]int64{5, 3}, [2]int64{5, 0}, [2]int64{0, 3})
}

func TestThatAPointerIsTheLedgerWhateverIsDone(t *testing.T) {
	l := made(t, 2, 2)
	same := l
	wants(t, "In", l.In(0, 0, 5), api.OK)
	wants(t, "Post", same.Post([]api.Posting{{Member: 0, Amount: -2}, {Member: 1, Amount: 2}}), api.OK)
	holds(t, "the other pointer", l, [2]int64{5, 0}, [2]int64{3, 0}, [2]int64{2, 0})
}

func TestThatABatchStaysAsItWas(t *testing.T) {
	l := made(t, 2, 2)
	batch := []api.Posting{{Member: 0, Amount: -2}, {Member: 1, Amount: 2}}
	before := slices.Clone(batch)
	wants(t, "Post", l.Post(batch), api.OK)
	if !slices.Equal(batch, before) {
		t.Errorf("%v has become %v", before, batch)
	}
	batch[1] = api.Posting{Member: 0, Amount: 99}
	holds(t, "the batch is another one now", l, [2]int64{}, [2]int64{-2, 0}, [2]int64{2, 0})
}
