package inout

import (
	"math"
	"slices"
	"testing"

	"nostro/api"
)

const (
	most  = math.MaxInt64
	least = math.MinInt64
)

// two are the base and a currency of the chapter's example.
func two() []api.Currency {
	return []api.Currency{{Code: "EUR", Rate: 10000}, {Code: "USD", Rate: 12500, Haircut: 200}}
}

// three are the base, a currency of a higher rate, and one of a low rate.
func three() []api.Currency {
	return append(two(), api.Currency{Code: "JPY", Rate: 62, Haircut: 1000})
}

// rated are the base, and a currency of that rate.
func rated(rate int64) []api.Currency {
	return []api.Currency{{Code: "EUR", Rate: 10000}, {Code: "XXX", Rate: rate, Haircut: 10000}}
}

// many are so many currencies, whose rates go down and whose haircuts go up.
func many(count int) []api.Currency {
	t := []api.Currency{{Code: "EUR", Rate: 10000}}
	for place := 1; place < count; place++ {
		t = append(t, api.Currency{Code: "AA" + string(rune('A'+place)), Rate: int64(20000 / place), Haircut: int64(place * 100)})
	}
	return t
}

// copiedNet is a list of lists that shares nothing with that one.
func copiedNet(net [][]int64) [][]int64 {
	var all [][]int64
	for _, row := range net {
		all = append(all, append([]int64{}, row...))
	}
	return all
}

// alike tells whether two lists of lists have the same amounts.
func alike(a, b [][]int64) bool {
	return slices.EqualFunc(a, b, func(x, y []int64) bool { return slices.Equal(x, y) })
}

// scribble makes an answer another one, also behind the ends of its lists as far as they have room.
func scribble(swaps []Swap, net [][]int64) {
	swaps = swaps[:cap(swaps)]
	for place := range swaps {
		swaps[place] = Swap{From: 77}
	}
	for _, row := range net {
		row = row[:cap(row)]
		for place := range row {
			row[place] ^= 0x55
		}
	}
	clear(net)
}

// proposes tells of an answer that is another one than it should be, the first or the second time, and if arguments
// aren't what they were.
func proposes(t *testing.T, what string, l []api.Currency, net [][]int64, from int64, want []Swap, then [][]int64, err api.Errno) {
	t.Helper()
	heldTable, heldNet := slices.Clone(l), copiedNet(net)
	for range 2 {
		swaps, left, gotten := Propose(l, net, from)
		if gotten != err || !slices.Equal(swaps, want) || !alike(left, then) {
			t.Fatalf("%s: Propose(%v, %v, %d) = %v, %v, %d, not %v, %v, %d", what, l, heldNet, from, swaps, left, gotten, want, then, err)
		}
		scribble(swaps, left)
	}
	if !slices.Equal(l, heldTable) || !alike(net, heldNet) {
		t.Errorf("%s: Propose changed %v, %v to %v, %v", what, heldTable, heldNet, l, net)
	}
}

// refuses tells if it isn't that error, beside which nothing else is told.
func refuses(t *testing.T, what string, l []api.Currency, net [][]int64, from int64, err api.Errno) {
	t.Helper()
	proposes(t, what, l, net, from, nil, nil, err)
}

// stays tells if anything is proposed.
func stays(t *testing.T, what string, l []api.Currency, net [][]int64, from int64) {
	t.Helper()
	proposes(t, what, l, net, from, nil, net, api.OK)
}

func TestTheChaptersExample(t *testing.T) {
	proposes(t, "the example", two(), [][]int64{{0, -80}, {0, 80}}, 1,
		[]Swap{{From: 1, To: 0, Cur: 1, Amount: 80, Base: 100}}, [][]int64{{-100, 0}, {100, 0}}, api.OK)
}

func TestProposeOfOneCurrency(t *testing.T) {
	for _, c := range []struct {
		what  string
		net   [][]int64
		swaps []Swap
		then  [][]int64
	}{
		{"nobody", nil, nil, nil},
		{"one who owes", [][]int64{{3, -8}}, nil, [][]int64{{3, -8}}},
		{"one who gets", [][]int64{{3, 8}}, nil, [][]int64{{3, 8}}},
		{"all owe", [][]int64{{0, -8}, {0, -1}}, nil, [][]int64{{0, -8}, {0, -1}}},
		{"all get", [][]int64{{0, 8}, {0, 1}}, nil, [][]int64{{0, 8}, {0, 1}}},
		{"zeros", [][]int64{{0, 0}, {0, 0}}, nil, [][]int64{{0, 0}, {0, 0}}},
		{"what is owed of the base", [][]int64{{-8, 0}, {8, 0}}, nil, [][]int64{{-8, 0}, {8, 0}}},
		{"the least amount", [][]int64{{0, -1}, {0, 1}}, []Swap{{1, 0, 1, 1, 1}}, [][]int64{{-1, 0}, {1, 0}}},
		{"who gets stands ahead", [][]int64{{0, 8}, {0, -8}}, []Swap{{0, 1, 1, 8, 10}}, [][]int64{{10, 0}, {-10, 0}}},
		{"more is owed", [][]int64{{0, -9}, {0, 8}}, []Swap{{1, 0, 1, 8, 10}}, [][]int64{{-10, -1}, {10, 0}}},
		{"more is got", [][]int64{{0, -8}, {0, 9}}, []Swap{{1, 0, 1, 8, 10}}, [][]int64{{-10, 0}, {10, 1}}},
		{"of the base there is some", [][]int64{{40, -8}, {-40, 8}}, []Swap{{1, 0, 1, 8, 10}}, [][]int64{{30, 0}, {-30, 0}}},
		{"two who get, in order", [][]int64{{0, 4}, {0, -12}, {0, 20}}, []Swap{{0, 1, 1, 4, 5}, {2, 1, 1, 8, 10}},
			[][]int64{{5, 0}, {-15, 0}, {10, 12}}},
		{"two who owe, in order", [][]int64{{0, -4}, {0, 12}, {0, -20}}, []Swap{{1, 0, 1, 4, 5}, {1, 2, 1, 8, 10}},
			[][]int64{{-5, 0}, {15, 0}, {-10, -12}}},
		{"the greatest one isn't the first", [][]int64{{0, -4}, {0, -400}, {0, 4}, {0, 400}}, []Swap{{2, 0, 1, 4, 5}, {3, 1, 1, 400, 500}},
			[][]int64{{-5, 0}, {-500, 0}, {5, 0}, {500, 0}}},
		{"nor what fits", [][]int64{{0, -4}, {0, -8}, {0, 8}, {0, 4}}, []Swap{{2, 0, 1, 4, 5}, {2, 1, 1, 4, 5}, {3, 1, 1, 4, 5}},
			[][]int64{{-5, 0}, {-10, 0}, {10, 0}, {5, 0}}},
		{"who got all is passed over", [][]int64{{0, 8}, {0, -8}, {0, -4}, {0, 0}, {0, 4}}, []Swap{{0, 1, 1, 8, 10}, {4, 2, 1, 4, 5}},
			[][]int64{{10, 0}, {-10, 0}, {-5, 0}, {0, 0}, {5, 0}}},
	} {
		proposes(t, c.what, two(), c.net, 1, c.swaps, c.then, api.OK)
	}
}

func TestProposeOfCurrenciesInOrder(t *testing.T) {
	net := [][]int64{{0, 8, -1000}, {0, -4, 500}, {7, -4, 500}}
	proposes(t, "of each", three(), net, 1,
		[]Swap{{0, 1, 1, 4, 5}, {0, 2, 1, 4, 5}, {1, 0, 2, 500, 3}, {2, 0, 2, 500, 3}}, [][]int64{{4, 0, 0}, {-2, 0, 0}, {5, 0, 0}}, api.OK)
	// Of the base alone nothing is proposed.
	stays(t, "the base alone", many(1), [][]int64{{-5}, {5}, {least}, {most}}, 1)
	// Of the last currency that there may be, by the last member.
	full := make([][]int64, api.MostMembers)
	for member := range full {
		full[member] = make([]int64, api.MostCurrencies)
	}
	full[15][7], full[14][7] = -7, 100
	then := copiedNet(full)
	then[15][7], then[14][7], then[15][0], then[14][0] = 0, 93, -1, 1
	proposes(t, "the last ones", many(8), full, 1, []Swap{{14, 15, 7, 7, 1}}, then, api.OK)
}

// What a member gets, or gives, of the base by one proposal is neither proposed again nor in the way of another one.
func TestProposeLetsTheBaseGoOn(t *testing.T) {
	net := [][]int64{{0, -80, 0}, {0, 80, -10000}, {0, 0, 10000}}
	proposes(t, "the base", three(), net, 1, []Swap{{1, 0, 1, 80, 100}, {2, 1, 2, 10000, 62}}, [][]int64{{-100, 0, 0}, {38, 0, 0}, {62, 0, 0}}, api.OK)
}

func TestProposeFromLeastOn(t *testing.T) {
	net := [][]int64{{0, -10}, {0, 4}, {0, 5}, {0, 9}, {0, -7}}
	for from, swaps := range map[int64][]Swap{
		1: {{1, 0, 1, 4, 5}, {2, 0, 1, 5, 6}, {3, 0, 1, 1, 1}, {3, 4, 1, 7, 8}},
		2: {{1, 0, 1, 4, 5}, {2, 0, 1, 5, 6}, {3, 4, 1, 7, 8}},
		4: {{1, 0, 1, 4, 5}, {2, 0, 1, 5, 6}, {3, 4, 1, 7, 8}},
		// To owes 5 behind the first one: enough for one more.
		5:    {{2, 0, 1, 5, 6}, {3, 0, 1, 5, 6}},
		6:    {{3, 0, 1, 9, 11}},
		9:    {{3, 0, 1, 9, 11}},
		10:   nil,
		11:   nil,
		most: nil,
	} {
		proposes(t, "from least on", two(), net, from, swaps, applied(net, swaps), api.OK)
	}
	// Who owes less than least is passed over, and who owes more behind it isn't.
	proposes(t, "a later one", two(), [][]int64{{0, -3}, {0, 100}, {0, -4}}, 4, []Swap{{1, 2, 1, 4, 5}}, [][]int64{{0, -3}, {5, 96}, {-5, 0}}, api.OK)
	proposes(t, "the greatest least", rated(1), [][]int64{{0, -most}, {0, most}}, most,
		[]Swap{{1, 0, 1, most, most / 10000}}, [][]int64{{-(most / 10000), 0}, {most / 10000, 0}}, api.OK)
	stays(t, "one below it", rated(1), [][]int64{{0, -most}, {0, most - 1}}, most)
}

// applied are nets behind swaps.
func applied(net [][]int64, swaps []Swap) [][]int64 {
	then := copiedNet(net)
	for _, s := range swaps {
		then[s.To][s.Cur] += s.Amount
		then[s.From][s.Cur] -= s.Amount
		then[s.To][0] -= s.Base
		then[s.From][0] += s.Base
	}
	return then
}

// What an amount is in the base is brought down, to 0 too, and whatever the haircut.
func TestProposeBringsTheBaseDown(t *testing.T) {
	for _, c := range []struct{ rate, amount, want int64 }{
		{1, 1, 0}, {1, 9999, 0}, {1, 10000, 1}, {1, 19999, 1}, {62, 161, 0}, {62, 162, 1}, {9999, 1, 0}, {9999, 2, 1},
		{10000, 1, 1}, {10001, 1, 1}, {19999, 1, 1}, {20000, 1, 2}, {12500, 3, 3}, {12500, 4, 5},
		{api.MostRate, 1, 10000}, {api.MostRate, most / 10000, most / 10000 * 10000},
	} {
		proposes(t, "down", rated(c.rate), [][]int64{{0, c.amount}, {0, -c.amount}}, 1,
			[]Swap{{0, 1, 1, c.amount, c.want}}, [][]int64{{c.want, 0}, {-c.want, 0}}, api.OK)
	}
}

func TestProposeWhereWhatIsOwedIsTooMuch(t *testing.T) {
	one := rated(10000)
	refuses(t, "2^63", one, [][]int64{{0, least}, {0, 5}}, 1, api.ErrOver)
	refuses(t, "who gets stands ahead", one, [][]int64{{0, 5}, {0, least}}, 1, api.ErrOver)
	refuses(t, "less than least could be given", one, [][]int64{{0, least}, {0, 5}}, 6, api.ErrOver)
	refuses(t, "behind a proposal", one, [][]int64{{0, -5}, {0, least}, {0, 6}}, 1, api.ErrOver)
	refuses(t, "ahead of one", one, [][]int64{{0, least}, {0, -5}, {0, 6}}, 1, api.ErrOver)
	refuses(t, "behind one that was too little", one, [][]int64{{0, -5}, {0, least}, {0, 5}}, 6, api.ErrOver)
	refuses(t, "of the last currency", three(), [][]int64{{0, -5, 0}, {0, 5, least}, {0, 0, 1}}, 1, api.ErrOver)
	stays(t, "nobody gets anything", one, [][]int64{{0, least}, {0, -5}, {0, 0}}, 1)
	stays(t, "alone", one, [][]int64{{0, least}}, 1)
	stays(t, "of the base", one, [][]int64{{least, 0}, {5, 0}}, 1)
	stays(t, "another currency is got", three(), [][]int64{{0, least, 0}, {0, 0, 5}}, 1)
	// As the nets stand then, there is nobody any more who would give it anything.
	proposes(t, "all was given", one, [][]int64{{0, -5}, {0, least}, {0, 5}}, 1, []Swap{{2, 0, 1, 5, 5}}, [][]int64{{-5, 0}, {0, least}, {5, 0}}, api.OK)
	// One more may be.
	proposes(t, "2^63 - 1", one, [][]int64{{0, -most}, {0, 5}}, 1, []Swap{{1, 0, 1, 5, 5}}, [][]int64{{-5, 5 - most}, {5, 0}}, api.OK)
	proposes(t, "all of it", one, [][]int64{{0, -most}, {0, most}}, 1, []Swap{{1, 0, 1, most, most}}, [][]int64{{-most, 0}, {most, 0}}, api.OK)
}

func TestProposeWhereTheBaseIsTooMuch(t *testing.T) {
	const edge = most / 10000 // how much times MostRate by Basis is an amount
	for _, net := range [][][]int64{{{0, edge + 1}, {0, -edge - 1}}, {{0, most - 1}, {0, -most}}, {{0, -most}, {0, edge + 1}}} {
		refuses(t, "what it is in the base", rated(api.MostRate), net, 1, api.ErrOver)
		stays(t, "it is below least", rated(api.MostRate), net, most)
	}
	one := rated(10000)
	refuses(t, "To has too little", one, [][]int64{{least + 4, -5}, {0, 5}}, 1, api.ErrOver)
	refuses(t, "From has too much", one, [][]int64{{0, -5}, {most - 4, 5}}, 1, api.ErrOver)
	refuses(t, "both", one, [][]int64{{least, -5}, {most, 5}}, 1, api.ErrOver)
	refuses(t, "by the second proposal", one, [][]int64{{least + 8, -9}, {0, 5}, {0, 4}}, 1, api.ErrOver)
	refuses(t, "by another currency", three(), [][]int64{{least, 4, -162}, {0, -4, 0}, {0, 0, 999}, {least, 0, -162}}, 1, api.ErrOver)
	proposes(t, "To has just enough", one, [][]int64{{least + 5, -5}, {0, 5}}, 1, []Swap{{1, 0, 1, 5, 5}}, [][]int64{{least, 0}, {5, 0}}, api.OK)
	proposes(t, "From has just little enough", one, [][]int64{{0, -5}, {most - 5, 5}}, 1, []Swap{{1, 0, 1, 5, 5}}, [][]int64{{-5, 0}, {most, 0}}, api.OK)
	proposes(t, "0 is never too much", rated(1), [][]int64{{least, -5}, {most, 5}}, 1, []Swap{{1, 0, 1, 5, 0}}, [][]int64{{least, 0}, {most, 0}}, api.OK)
	stays(t, "below least", one, [][]int64{{least, -5}, {most, 5}}, 6)
	// A net that is none on the way is refused, though a later proposal would bring it back.
	back := [][]int64{{most, 4, -162}, {0, -4, 0}, {0, 0, 162}}
	refuses(t, "on the way", three(), back, 1, api.ErrOver)
	back[0][0] = most - 5
	proposes(t, "there and back", three(), back, 1, []Swap{{0, 1, 1, 4, 5}, {2, 0, 2, 162, 1}}, [][]int64{{most - 1, 0, 0}, {-5, 0, 0}, {1, 0, 0}}, api.OK)
}
