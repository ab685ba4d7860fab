package deal

import (
	"testing"

	"nostro/api"
)

func TestNewOfAllSizes(t *testing.T) {
	for members := -2; members <= api.MostMembers+2; members++ {
		for currencies := -2; currencies <= api.MostCurrencies+2; currencies++ {
			b, err := New(members, currencies)
			if members < 1 || members > 16 || currencies < 1 || currencies > 8 {
				if b != nil || err != api.ErrArg {
					t.Errorf("New(%d, %d) = %v, %d", members, currencies, b, err)
				}
				continue
			}
			if err != api.OK {
				t.Errorf("New(%d, %d): %d", members, currencies, err)
				continue
			}
			newModel(members, currencies).same(t, b)
		}
	}
	for _, c := range [][2]int{{least, 1}, {1, least}, {most, 1}, {1, most}, {1 << 32, 1}, {1, 1 << 32}, {257, 1}, {1, 257}} {
		if b, err := New(c[0], c[1]); b != nil || err != api.ErrArg {
			t.Errorf("New(%d, %d) = %v, %d", c[0], c[1], b, err)
		}
	}
}

func TestTheStates(t *testing.T) {
	if None != 0 || Alone != 1 || Matched != 2 || Settled != 3 || Gone != 4 {
		t.Errorf("%d, %d, %d, %d, %d", None, Alone, Matched, Settled, Gone)
	}
}

func TestThatTheExampleHolds(t *testing.T) {
	b := made(t, 2, 2)
	submits(t, b, api.Deal{Id: 7, A: 0, B: 1, SellCur: 0, BuyCur: 1, Sell: 100, Buy: 80}, false, api.OK)
	if got := b.State(7); got != Alone {
		t.Errorf("%d", got)
	}
	submits(t, b, api.Deal{Id: 7, A: 1, B: 0, SellCur: 1, BuyCur: 0, Sell: 80, Buy: 100}, true, api.OK)
	if got := b.State(7); got != Matched {
		t.Errorf("%d", got)
	}
}

// edges lets a number of an instruction be each one that may stand there, and some that may not.
func edges(d api.Deal, members, currencies int) []api.Deal {
	var list []api.Deal
	for _, n := range []int{least, -1, 0, 1, 2, 3, 4, 7, 8, 15, 16, 17, 255, 256, 1<<31 - 1, 1 << 31, 1 << 32, 1<<32 + 1, most, members - 1, members, currencies - 1, currencies} {
		byId, byA, byB, bySell, byBuy, sell, buy := d, d, d, d, d, d, d
		byId.Id, byA.A, byB.B, bySell.SellCur, byBuy.BuyCur, sell.Sell, buy.Buy = n, n, n, n, n, int64(n), int64(n)
		list = append(list, byId, byA, byB, bySell, byBuy, sell, buy)
	}
	return list
}

func TestSubmitOfWhatMayBeAndMayNot(t *testing.T) {
	for members := 1; members <= api.MostMembers; members++ {
		for currencies := 1; currencies <= api.MostCurrencies; currencies++ {
			base := api.Deal{Id: 5, A: members - 1, B: 0, SellCur: 0, BuyCur: currencies - 1, Sell: 3, Buy: 4}
			refused := 0
			for _, d := range edges(base, members, currencies) {
				b, m := made(t, members, currencies), newModel(members, currencies)
				_, want := m.submit(d)
				submits(t, b, d, false, want)
				m.same(t, b)
				if want == api.ErrArg {
					refused++
				}
			}
			if refused == 0 {
				t.Errorf("%d, %d: none was refused", members, currencies)
			}
		}
	}
}

func TestSubmitAtTheEnds(t *testing.T) {
	b := made(t, api.MostMembers, api.MostCurrencies)
	great := api.Deal{Id: 1<<31 - 1, A: 15, B: 14, SellCur: 7, BuyCur: 6, Sell: most, Buy: most}
	small := api.Deal{Id: 1, A: 0, B: 1, SellCur: 0, BuyCur: 1, Sell: 1, Buy: 1}
	submits(t, b, great, false, api.OK)
	submits(t, b, small, false, api.OK)
	submits(t, b, turned(great), true, api.OK)
	submits(t, b, turned(small), true, api.OK)
	if got, is := b.Deal(1<<31 - 1); got != great || !is {
		t.Errorf("%v, %v", got, is)
	}
	lists(t, "matched", b.All(Matched), 1<<31-1, 1)
}

func TestSubmitOfWhatMayNotBeIsNamedAheadOfAll(t *testing.T) {
	b := made(t, 3, 3)
	submits(t, b, one(7), false, api.OK)
	for range 2 { // of one that is alone, and of one that is matched
		for _, d := range edges(turned(one(7)), 3, 3) {
			if _, want := newModel(3, 3).submit(d); want == api.ErrArg {
				submits(t, b, d, false, api.ErrArg)
			}
		}
		b.Submit(turned(one(7)))
	}
	lists(t, "matched", b.All(Matched), 7)
}

// Whatever one number of it is, what isn't the mirror doesn't match, and leaves the other one alone.
func TestSubmitOfWhatIsNoMirror(t *testing.T) {
	first := api.Deal{Id: 7, A: 0, B: 1, SellCur: 0, BuyCur: 1, Sell: 100, Buy: 80}
	mirror := turned(first)
	wrong := map[string]api.Deal{}
	for name, change := range map[string]func(d *api.Deal){
		"another A":       func(d *api.Deal) { d.A = 2 },
		"another B":       func(d *api.Deal) { d.B = 2 },
		"another SellCur": func(d *api.Deal) { d.SellCur = 2 },
		"another BuyCur":  func(d *api.Deal) { d.BuyCur = 2 },
		"Sell one more":   func(d *api.Deal) { d.Sell++ },
		"Sell one less":   func(d *api.Deal) { d.Sell-- },
		"Buy one more":    func(d *api.Deal) { d.Buy++ },
		"Buy one less":    func(d *api.Deal) { d.Buy-- },
		"other amounts":   func(d *api.Deal) { d.Sell, d.Buy = d.Buy, d.Sell },
		"currencies":      func(d *api.Deal) { d.SellCur, d.BuyCur = d.BuyCur, d.SellCur },
		"two that aren't": func(d *api.Deal) { d.A, d.B = 2, 1 },
		"members alone":   func(d *api.Deal) { d.SellCur, d.BuyCur, d.Sell, d.Buy = d.BuyCur, d.SellCur, d.Buy, d.Sell },
		"2^32 more":       func(d *api.Deal) { d.Sell += 1 << 32 },
		"2^62 more":       func(d *api.Deal) { d.Buy += 1 << 62 },
	} {
		d := mirror
		change(&d)
		wrong[name] = d
	}
	b := made(t, 3, 3)
	submits(t, b, first, false, api.OK)
	for name, d := range wrong {
		if match, err := b.Submit(d); match || err != api.ErrUnfit {
			t.Errorf("%s: %v, %d", name, match, err)
		}
		if got, _ := b.Deal(7); got != first || b.State(7) != Alone {
			t.Errorf("%s: %v, %d", name, got, b.State(7))
		}
	}
	submits(t, b, mirror, true, api.OK)
}

// Of one's own Id it is ErrTwice, whatever else is told; of one that isn't alone, whoever tells what.
func TestSubmitTwice(t *testing.T) {
	b := made(t, 3, 3)
	submits(t, b, one(7), false, api.OK)
	submits(t, b, one(7), false, api.ErrTwice)
	other := one(7)
	other.B, other.SellCur, other.Sell = 2, 2, 5
	submits(t, b, other, false, api.ErrTwice)
	submits(t, b, turned(one(7)), true, api.OK)
	for _, d := range []api.Deal{one(7), turned(one(7)), other, turned(other)} {
		submits(t, b, d, false, api.ErrTwice)
	}
	settles(t, b, 7, api.OK)
	submits(t, b, one(8), false, api.OK)
	rescinds(t, b, 0, 8, Gone, api.OK)
	for _, id := range []int{7, 8} {
		other.Id = id
		for _, d := range []api.Deal{one(id), turned(one(id)), other, turned(other)} {
			submits(t, b, d, false, api.ErrTwice)
		}
		if got, is := b.Deal(id); got != one(id) || !is {
			t.Errorf("%d: %v, %v", id, got, is)
		}
	}
	lists(t, "settled", b.All(Settled), 7)
	lists(t, "gone", b.All(Gone), 8)
}

func TestThatWhicheverComesFirstTheyMatch(t *testing.T) {
	for _, d := range []api.Deal{one(7), turned(one(7))} {
		b := made(t, 2, 2)
		submits(t, b, d, false, api.OK)
		submits(t, b, turned(d), true, api.OK)
		if got, is := b.Deal(7); got != d || !is || b.State(7) != Matched {
			t.Errorf("%v, %v, %d", got, is, b.State(7))
		}
	}
}

func TestSubmitOfTooMany(t *testing.T) {
	b, m := made(t, 2, 2), newModel(2, 2)
	for id := 1; id <= 200; id++ {
		submits(t, b, one(1000-id), false, api.OK)
		m.submit(one(1000 - id))
	}
	m.same(t, b)
	// What is settled or gone is known still, and leaves no room.
	submits(t, b, one(1), false, api.ErrMany)
	submits(t, b, turned(one(999)), true, api.OK)
	settles(t, b, 999, api.OK)
	rescinds(t, b, 0, 998, Gone, api.OK)
	submits(t, b, one(1), false, api.ErrMany)
	none := one(1)
	none.Sell = 0
	submits(t, b, none, false, api.ErrArg)
	// Of those known all goes on.
	submits(t, b, one(999), false, api.ErrTwice)
	submits(t, b, turned(one(997)), true, api.OK)
	lists(t, "matched", b.All(Matched), 997)
	if got := len(b.Remove(1)); got != 198 {
		t.Errorf("%d removed", got)
	}
	submits(t, b, one(1), false, api.ErrMany)
	if got := len(b.Text()); got != 2+200*28 {
		t.Errorf("%d bytes", got)
	}
}

func TestAllIsInOrder(t *testing.T) {
	b := made(t, 2, 2)
	for _, id := range []int{9, 3, 7, 1, 5} {
		submits(t, b, one(id), false, api.OK)
	}
	lists(t, "alone", b.All(Alone), 9, 3, 7, 1, 5)
	for _, id := range []int{5, 3, 9, 1} {
		submits(t, b, turned(one(id)), true, api.OK)
	}
	lists(t, "alone", b.All(Alone), 7)
	lists(t, "matched", b.All(Matched), 5, 3, 9, 1)
	for _, id := range []int{1, 3} {
		settles(t, b, id, api.OK)
	}
	lists(t, "settled", b.All(Settled), 3, 1)
	lists(t, "matched", b.All(Matched), 5, 9)
	lists(t, "removed", b.Remove(0), 9, 7, 5)
	lists(t, "gone", b.All(Gone), 9, 7, 5)
	for _, state := range []int{None, -1, 5, 256, 257, least, most} {
		lists(t, "no state", b.All(state))
	}
}

func TestThatAnswersAndArgumentsShareNothing(t *testing.T) {
	b := made(t, 2, 2)
	d := one(7)
	submits(t, b, d, false, api.OK)
	submits(t, b, one(8), false, api.OK)
	if d != one(7) {
		t.Errorf("%v", d)
	}
	d.Sell = 1
	known, _ := b.Deal(7)
	known.Sell = 2
	if got, _ := b.Deal(7); got != one(7) {
		t.Errorf("%v", got)
	}
	b.All(Alone)[0] = 99
	lists(t, "alone", b.All(Alone), 7, 8)
	b.Remove(1)[0] = 99
	lists(t, "gone", b.All(Gone), 7, 8)
	if got := b.State(99); got != None {
		t.Errorf("%d", got)
	}
}

func TestThatBooksShareNothing(t *testing.T) {
	a, b := made(t, 2, 2), made(t, 2, 2)
	same := a
	submits(t, a, one(7), false, api.OK)
	if same.State(7) != Alone || b.State(7) != None {
		t.Errorf("%d, %d", same.State(7), b.State(7))
	}
	c, err := Read(a.Text(), 2, 2)
	if err != api.OK {
		t.Fatalf("Read: %d", err)
	}
	submits(t, c, turned(one(7)), true, api.OK)
	rescinds(t, a, 0, 7, Gone, api.OK)
	if a.State(7) != Gone || c.State(7) != Matched {
		t.Errorf("%d, %d", a.State(7), c.State(7))
	}
}
