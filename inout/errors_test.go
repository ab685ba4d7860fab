package inout

import (
	"slices"
	"testing"

	"nostro/api"
)

// with is a table of three, of which one currency is another one.
func with(place int, c api.Currency) []api.Currency {
	t := three()
	t[place] = c
	return t
}

// wrongTables are such that may not be, by the errors that Check tells of them.
func wrongTables() map[api.Errno][][]api.Currency {
	return map[api.Errno][][]api.Currency{
		api.ErrMany:  {nil, {}, many(9)},
		api.ErrForm:  {with(1, api.Currency{Code: "usd", Rate: 1}), with(2, api.Currency{Rate: 1})},
		api.ErrTwice: {with(2, api.Currency{Code: "USD", Rate: 1})},
		api.ErrArg: {with(1, api.Currency{Code: "USD"}), with(1, api.Currency{Code: "USD", Rate: api.MostRate + 1}),
			with(2, api.Currency{Code: "JPY", Rate: -1}), with(2, api.Currency{Code: "JPY", Rate: 1, Haircut: 10001}),
			with(0, api.Currency{Code: "EUR", Rate: 10001}), with(0, api.Currency{Code: "EUR", Rate: 10000, Haircut: 1})},
	}
}

// rows are so many nets of so many currencies.
func rows(members, currencies int) [][]int64 {
	var net [][]int64
	for range members {
		net = append(net, make([]int64, currencies))
	}
	return net
}

func TestProposeOfAWrongTable(t *testing.T) {
	for err, l := range wrongTables() {
		for _, wrong := range l {
			for _, net := range [][][]int64{nil, rows(2, len(wrong)), rows(2, len(wrong)+1), rows(17, len(wrong)), rows(17, 0)} {
				for _, from := range []int64{least, 0, 1, most} {
					refuses(t, "a wrong table", wrong, net, from, err)
				}
			}
		}
	}
}

func TestProposeOfTooManyNets(t *testing.T) {
	stays(t, "16", three(), rows(16, 3), 1)
	refuses(t, "17", three(), rows(17, 3), 1, api.ErrMany)
	refuses(t, "many", three(), rows(1000, 3), 1, api.ErrMany)
	for _, currencies := range []int{0, 2, 4} {
		refuses(t, "17 wrong ones", three(), rows(17, currencies), 1, api.ErrMany)
	}
	refuses(t, "17, and a wrong least", three(), rows(17, 3), 0, api.ErrMany)
}

func TestProposeOfWrongNets(t *testing.T) {
	for _, wrong := range [][]int64{nil, {}, {0}, {0, 0}, {0, 0, 0, 0}, {1, -2, 3, -4, 5, -6, 7, -8, 9}} {
		for place := range 3 {
			net := rows(3, 3)
			net[place] = wrong
			refuses(t, "one of them", three(), net, 1, api.ErrArg)
			refuses(t, "and a wrong least", three(), net, -1, api.ErrArg)
		}
		refuses(t, "ahead of what is too much", three(), [][]int64{{0, least, 0}, {0, 5, 0}, wrong}, 1, api.ErrArg)
		refuses(t, "alone", three(), [][]int64{wrong}, 1, api.ErrArg)
	}
	stays(t, "of one currency", many(1), rows(16, 1), 1)
	stays(t, "of 8", many(8), rows(16, 8), 1)
	refuses(t, "7 of 8", many(8), rows(16, 7), 1, api.ErrArg)
	refuses(t, "9 of 8", many(8), rows(16, 9), 1, api.ErrArg)
}

func TestProposeOfAWrongLeast(t *testing.T) {
	for _, from := range []int64{0, -1, -80, least} {
		refuses(t, "a swap", two(), [][]int64{{0, -80}, {0, 80}}, from, api.ErrArg)
		refuses(t, "nobody", two(), nil, from, api.ErrArg)
		refuses(t, "nothing", two(), rows(2, 2), from, api.ErrArg)
		refuses(t, "what is too much", two(), [][]int64{{0, least}, {0, 80}}, from, api.ErrArg)
	}
}

// Lists of nets that share memory are as if they didn't: what one member's becomes isn't another one's.
func TestNetsThatShareMemory(t *testing.T) {
	room := []int64{0, -8, 0, 4, 0, 4}
	proposes(t, "of one room", two(), [][]int64{room[0:2], room[2:4], room[4:6]}, 1,
		[]Swap{{1, 0, 1, 4, 5}, {2, 0, 1, 4, 5}}, [][]int64{{-10, 0}, {5, 0}, {5, 0}}, api.OK)
	same := []int64{0, 4}
	proposes(t, "the same one twice", two(), [][]int64{same, {0, -8}, same}, 1,
		[]Swap{{0, 1, 1, 4, 5}, {2, 1, 1, 4, 5}}, [][]int64{{5, 0}, {-10, 0}, {5, 0}}, api.OK)
}

// The nets that are told share nothing with those that were asked of, nor with each other, where none has changed too.
func TestTheNetsToldAreNew(t *testing.T) {
	for _, net := range [][][]int64{{{0, -8}, {0, 8}, {5, 0}}, {{1, 2}, {3, 4}, {5, 6}}} {
		held := copiedNet(net)
		_, then, err := Propose(two(), net, 1)
		if err != api.OK || len(then) != 3 {
			t.Fatalf("Propose = %v, %d", then, err)
		}
		told := copiedNet(then)
		for place, row := range then {
			_ = append(row, 99)
			row[0] ^= 0x55
			if !alike(net, held) || !slices.Equal(then[(place+1)%3], told[(place+1)%3]) {
				t.Errorf("as net %d changes, those asked of are %v, and those told %v", place, net, then)
			}
			row[0] ^= 0x55
		}
	}
}
