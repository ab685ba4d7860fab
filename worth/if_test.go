package worth

import (
	"testing"

	"nostro/api"
)

// ifs tells where If answers otherwise.
func ifs(t *testing.T, what string, w *Worths, member int, batch []api.Posting, net, short int64, want api.Errno) {
	t.Helper()
	gotNet, gotShort, err := w.If(member, batch)
	if gotNet != net || gotShort != short || err != want {
		t.Errorf("%s: %d, %d (%d), not %d, %d (%d)", what, gotNet, gotShort, err, net, short, want)
	}
}

func TestIf(t *testing.T) {
	w := made(t, three(), laid(t, []int64{1007, -100, 0}, []int64{-7, 500, 10000}))
	batch := func(batch ...api.Posting) []api.Posting { return batch }
	for _, c := range []struct {
		what       string
		member     int
		batch      []api.Posting
		net, short int64
		want       api.Errno
	}{
		{"no postings", 0, nil, 879, 125, 0},
		{"an empty list", 0, batch(), 879, 125, 0},
		{"one of its own, one of the other's", 0, batch(of(0, 1, 40), of(1, 1, 5)), 1007 - 77, 75, 0},
		{"the other's alone", 1, batch(of(0, 1, 40)), 612 + 55 - 7, 7, 0},
		{"of one that there isn't", 0, batch(of(7, 0, 9), of(-1, 0, most), of(least, 2, least)), 879, 125, 0},
		{"a batch that isn't even", 0, batch(of(0, 0, -2007)), -1128, 1125, 0},
		{"an amount of 0", 0, batch(of(0, 0, 0), of(0, 1, 0)), 879, 125, 0},
		{"more than once of a currency", 0, batch(of(0, 1, 50), of(0, 1, 50), of(0, 1, 8)), 1007 + 9, 0, 0},
		{"to the end and back", 0, batch(of(0, 2, most), of(0, 2, -most)), 879, 125, 0},
		{"beyond the end and back", 0, batch(of(0, 0, most), of(0, 0, -most)), 0, 0, api.ErrOver},
		{"back first", 0, batch(of(0, 0, -most), of(0, 0, most)), 879, 125, 0},
		{"below the least and back", 0, batch(of(0, 1, -most), of(0, 1, most)), 0, 0, api.ErrOver},
		{"beyond the end, of the other one", 0, batch(of(1, 1, most), of(1, 1, most)), 879, 125, 0},
		{"a net worth that is none", 0, batch(of(0, 0, most-1007), of(0, 1, 200)), 0, 0, api.ErrOver},
		{"short by what is none", 0, batch(of(0, 0, -1007), of(0, 0, least)), 0, 0, api.ErrOver},
		{"a currency that is none", 0, batch(of(0, 3, 0)), 0, 0, api.ErrArg},
		{"a currency that a greater table has", 0, batch(of(0, 7, 1)), 0, 0, api.ErrArg},
		{"a currency below 0", 0, batch(of(0, -1, 1)), 0, 0, api.ErrArg},
		{"a currency that is none, of the other one", 0, batch(of(1, 3, 1)), 0, 0, api.ErrArg},
		{"a currency that is none, of one that there isn't", 0, batch(of(9, 3, 1)), 0, 0, api.ErrArg},
		{"a balance that is none, then a currency that is none", 0, batch(of(0, 0, most), of(0, 8, 1)), 0, 0, api.ErrArg},
		{"a member that is none", 2, batch(of(2, 0, 1)), 0, 0, api.ErrArg},
		{"a member that is none, of nothing", -1, nil, 0, 0, api.ErrArg},
	} {
		ifs(t, c.what, w, c.member, c.batch, c.net, c.short, c.want)
		stands(t, c.what+", behind it", w, 0, 879, 125)
		stands(t, c.what+", behind it", w, 1, 612+55-7, 7)
	}
	wants(t, "Rate", w.Rate(1, 20000), api.OK)
	ifs(t, "by another rate", w, 0, batch(of(0, 1, 40)), 1007-123, 120, api.OK)
	wants(t, "Cut", w.Cut(1, 0), api.OK)
	ifs(t, "by another haircut", w, 0, batch(of(0, 1, 40)), 1007-120, 120, api.OK)
	ifs(t, "a greater part of what isn't owed", w, 0, batch(of(0, 1, 140)), 1007+80, 0, api.OK)
}

// What If tells is what Net and Short tell once the batch was done, and Moved was called.
func TestThatIfIsWhatIsThen(t *testing.T) {
	amounts := []int64{-2000, -101, -100, -99, -1, 0, 1, 99, 100, 101, 2000}
	for _, one := range amounts {
		for _, other := range amounts {
			l := laid(t, []int64{1007, -100, 0}, []int64{-7, 500, 10000})
			w := made(t, three(), l)
			batch := []api.Posting{of(0, 1, one), of(1, 0, other), of(0, 0, -other), of(1, 1, -one), of(0, 2, one), of(1, 2, -one)}
			var nets, shorts [2]int64
			for member := range 2 {
				net, short, err := w.If(member, batch)
				wants(t, "If", err, api.OK)
				nets[member], shorts[member] = net, short
			}
			wants(t, "Post", l.Post(batch), api.OK)
			for member := range 2 {
				w.Moved(member)
				stands(t, "what is then", w, member, nets[member], shorts[member])
			}
		}
	}
}
