package plan

import (
	"math"
	"slices"
	"testing"

	"nostro/api"
	"nostro/deal"
)

const (
	most  = math.MaxInt64
	least = math.MinInt64
)

// mirror is an instruction as its B tells it.
func mirror(d api.Deal) api.Deal {
	return api.Deal{Id: d.Id, A: d.B, B: d.A, SellCur: d.BuyCur, BuyCur: d.SellCur, Sell: d.Buy, Buy: d.Sell}
}

// give is an instruction by which a pays b so much of a currency, for so much of another one; its Id is to be told yet.
func give(a, b, sellCur int, sell int64, buyCur int, buy int64) api.Deal {
	return api.Deal{A: a, B: b, SellCur: sellCur, BuyCur: buyCur, Sell: sell, Buy: buy}
}

// empty is a book of so many members and currencies, that knows nothing.
func empty(t *testing.T, members, currencies int) *deal.Book {
	t.Helper()
	b, err := deal.New(members, currencies)
	wants(t, "deal.New", err, api.OK)
	return b
}

// book is a book of so many, in which these instructions are matched, with Ids from 1 on.
func book(t *testing.T, members, currencies int, deals ...api.Deal) *deal.Book {
	t.Helper()
	b := empty(t, members, currencies)
	for place, d := range deals {
		d.Id = place + 1
		submit(t, b, d, false)
		submit(t, b, mirror(d), true)
	}
	return b
}

// submit hands in an instruction that matches, or is alone.
func submit(t *testing.T, b *deal.Book, d api.Deal, match bool) {
	t.Helper()
	if got, err := b.Submit(d); got != match || err != api.OK {
		t.Fatalf("Submit(%v) = %v, %d", d, got, err)
	}
}

// wants tells of a call that answered otherwise than it should.
func wants(t *testing.T, what string, got, want api.Errno) {
	t.Helper()
	if got != want {
		t.Errorf("%s: %d, not %d", what, got, want)
	}
}

// copied is a list of lists that shares nothing with that one.
func copied(l [][]int64) [][]int64 {
	var all [][]int64
	for _, row := range l {
		all = append(all, slices.Clone(row))
	}
	return all
}

// alike tells whether two lists of lists have the same amounts.
func alike(a, b [][]int64) bool {
	return slices.EqualFunc(a, b, func(x, y []int64) bool { return slices.Equal(x, y) })
}

// nets asks Net twice, as the same call answers the same, and tells if the book isn't what it was.
func nets(t *testing.T, what string, b *deal.Book, members, currencies int) ([][]int64, api.Errno) {
	t.Helper()
	text := b.Text()
	got, err := Net(b, members, currencies)
	held := copied(got)
	scribble(got...)
	got, again := Net(b, members, currencies)
	if again != err || !alike(got, held) {
		t.Errorf("%s: Net = %v, %d, and then %v, %d", what, held, err, got, again)
	}
	if b.Text() != text {
		t.Errorf("%s: Net changed the book", what)
	}
	return got, err
}

// scribble makes lists others, so that it is seen who shares them: also behind their ends, as far as they have room.
func scribble(l ...[]int64) {
	for _, row := range l {
		row = row[:cap(row)]
		for place := range row {
			row[place] ^= 0x55
		}
	}
}

// netsAre tells of nets that are others, or of another error than should be.
func netsAre(t *testing.T, what string, b *deal.Book, members, currencies int, want [][]int64, err api.Errno) {
	t.Helper()
	got, gotten := nets(t, what, b, members, currencies)
	if gotten != err || !alike(got, want) {
		t.Errorf("%s: Net = %v, %d, not %v, %d", what, got, gotten, want, err)
	}
}

func TestNetIsWhatIsGotLessWhatIsPaid(t *testing.T) {
	for _, c := range []struct {
		what  string
		deals []api.Deal
		want  [][]int64
	}{
		{"nothing is matched", nil, [][]int64{{0, 0, 0}, {0, 0, 0}, {0, 0, 0}}},
		{"one", []api.Deal{give(0, 1, 0, 100, 1, 80)}, [][]int64{{-100, 80, 0}, {100, -80, 0}, {0, 0, 0}}},
		{"the least amounts", []api.Deal{give(2, 0, 2, 1, 0, 1)}, [][]int64{{-1, 0, 1}, {0, 0, 0}, {1, 0, -1}}},
		{"there and back", []api.Deal{give(0, 1, 0, 100, 1, 80), give(1, 0, 0, 100, 1, 80)},
			[][]int64{{0, 0, 0}, {0, 0, 0}, {0, 0, 0}}},
		{"twice the same", []api.Deal{give(1, 2, 1, 7, 2, 9), give(1, 2, 1, 7, 2, 9)},
			[][]int64{{0, 0, 0}, {0, -14, 18}, {0, 14, -18}}},
		{"round, in one currency for another each", []api.Deal{give(0, 1, 0, 5, 1, 6), give(1, 2, 0, 7, 1, 8), give(2, 0, 0, 9, 1, 10)},
			[][]int64{{4, -4, 0}, {-2, 2, 0}, {-2, 2, 0}}},
		{"who stands between", []api.Deal{give(0, 1, 0, 50, 2, 1), give(1, 2, 0, 50, 2, 1)},
			[][]int64{{-50, 0, 1}, {0, 0, 0}, {50, 0, -1}}},
	} {
		netsAre(t, c.what, book(t, 3, 3, c.deals...), 3, 3, c.want, api.OK)
	}
}

func TestNetIsOfMatchedOnesAlone(t *testing.T) {
	d := give(0, 1, 0, 100, 1, 80)
	b := book(t, 3, 3, d, d, d, d)
	wants(t, "Settle", b.Settle(2), api.OK)
	for member := range 2 {
		_, err := b.Rescind(member, 3)
		wants(t, "Rescind", err, api.OK)
	}
	_, err := b.Rescind(0, 4) // but one has asked: it is matched still
	wants(t, "Rescind", err, api.OK)
	d.Id, d.Sell = 5, 1000
	submit(t, b, d, false)
	netsAre(t, "1 and 4 are matched", b, 3, 3, [][]int64{{-200, 160, 0}, {200, -160, 0}, {0, 0, 0}}, api.OK)
	b.Remove(1)
	netsAre(t, "none is", b, 3, 3, [][]int64{{0, 0, 0}, {0, 0, 0}, {0, 0, 0}}, api.OK)
}

func TestNetIsExact(t *testing.T) {
	up, down := give(0, 1, 0, most, 1, 1), give(1, 0, 0, most, 1, 1)
	one := give(0, 1, 0, 1, 1, 1)
	for _, c := range []struct {
		what  string
		deals []api.Deal
		want  [][]int64
		err   api.Errno
	}{
		{"the greatest amount", []api.Deal{up}, [][]int64{{-most, 1}, {most, -1}}, api.OK},
		{"2^63 is none", []api.Deal{up, one}, nil, api.ErrOver},
		{"whoever tells it", []api.Deal{down, give(1, 0, 0, 1, 1, 1)}, nil, api.ErrOver},
		{"by far too much", []api.Deal{up, up, up, up}, nil, api.ErrOver},
		{"too much on the way", []api.Deal{up, up, one, down, down}, [][]int64{{-1, 1 + 1 + 1 - 1 - 1}, {1, -1}}, api.OK},
		{"of the other currency", []api.Deal{give(0, 1, 0, 1, 1, most), give(0, 1, 0, 1, 1, 1)}, nil, api.ErrOver},
	} {
		netsAre(t, c.what, book(t, 2, 2, c.deals...), 2, 2, c.want, c.err)
	}
	// Who pays has -2^63, which is an amount, but of two who get it one has too little to be refused.
	b := book(t, 3, 2, up, give(0, 2, 0, 1, 1, 1))
	netsAre(t, "-2^63", b, 3, 2, [][]int64{{least, 2}, {most, -1}, {1, -1}}, api.OK)
	b = book(t, 3, 2, up, give(0, 2, 0, 2, 1, 1))
	netsAre(t, "one below", b, 3, 2, nil, api.ErrOver)
	b = book(t, 3, 2, give(1, 0, 0, most, 1, 1), give(2, 0, 0, 1, 1, 1))
	netsAre(t, "2^63 of who gets it alone", b, 3, 2, nil, api.ErrOver)
	// The greatest instructions that a book can know, all of one pair.
	var all []api.Deal
	for range api.MostDeals / 2 {
		all = append(all, up, down)
	}
	netsAre(t, "all of them", book(t, 2, 2, all...), 2, 2, [][]int64{{0, 0}, {0, 0}}, api.OK)
}

func TestNetOfHowManyThereAre(t *testing.T) {
	b := book(t, 4, 4, give(1, 2, 1, 10, 2, 20))
	for _, c := range []struct {
		members, currencies int
		err                 api.Errno
	}{
		{3, 3, api.OK}, {4, 4, api.OK}, {16, 8, api.OK}, {3, 8, api.OK}, {16, 3, api.OK},
		{2, 3, api.ErrArg}, {3, 2, api.ErrArg}, {1, 1, api.ErrArg}, {2, 8, api.ErrArg}, {16, 2, api.ErrArg},
		{17, 3, api.ErrArg}, {3, 9, api.ErrArg}, {0, 3, api.ErrArg}, {3, 0, api.ErrArg}, {-1, 3, api.ErrArg}, {3, -1, api.ErrArg},
		{most, 3, api.ErrArg}, {3, most, api.ErrArg}, {least, 3, api.ErrArg}, {3, least, api.ErrArg},
	} {
		var want [][]int64
		if c.err == api.OK {
			for range c.members {
				want = append(want, make([]int64, c.currencies))
			}
			want[1][1], want[1][2], want[2][1], want[2][2] = -10, 20, 10, -20
		}
		netsAre(t, "one of 1 and 2", b, c.members, c.currencies, want, c.err)
	}
}

// Each of an instruction's four, as who came first and as who came second, is none of so many.
func TestNetOfAnInstructionThatIsOutside(t *testing.T) {
	for _, d := range []api.Deal{give(2, 0, 0, 1, 1, 1), give(0, 2, 0, 1, 1, 1), give(0, 1, 2, 1, 1, 1), give(0, 1, 0, 1, 2, 1)} {
		inside := give(0, 1, 0, 1, 1, 1)
		netsAre(t, "the last one", book(t, 3, 3, inside, inside, d), 2, 2, nil, api.ErrArg)
		netsAre(t, "the first one", book(t, 3, 3, d, inside, inside), 2, 2, nil, api.ErrArg)
		great := give(1, 0, 0, most, 1, most)
		netsAre(t, "ahead of a net that is none", book(t, 3, 3, great, great, d), 2, 2, nil, api.ErrArg)
		// Who isn't matched may be outside.
		b := book(t, 3, 3, d, inside)
		wants(t, "Settle", b.Settle(1), api.OK)
		netsAre(t, "it is settled", b, 2, 2, [][]int64{{-1, 1}, {1, -1}}, api.OK)
		b = book(t, 3, 3, inside)
		d.Id = 2
		submit(t, b, d, false)
		netsAre(t, "it is alone", b, 2, 2, [][]int64{{-1, 1}, {1, -1}}, api.OK)
	}
}

func TestNetOfNoBook(t *testing.T) {
	for _, members := range []int{-1, 0, 1, 16, 17} {
		if got, err := Net(nil, members, 2); got != nil || err != api.ErrArg {
			t.Errorf("Net(nil, %d, 2) = %v, %d", members, got, err)
		}
	}
}

// The lists of an answer share nothing with each other: to lengthen one, or to change it, changes no other.
func TestNetsShareNothing(t *testing.T) {
	got, _ := Net(book(t, 3, 3, give(0, 1, 0, 100, 1, 80)), 3, 3)
	scribble(got[0])
	_ = append(got[1], 5)
	if !slices.Equal(got[1], []int64{100, -80, 0}) || !slices.Equal(got[2], []int64{0, 0, 0}) {
		t.Errorf("the others are %v, %v", got[1], got[2])
	}
}
