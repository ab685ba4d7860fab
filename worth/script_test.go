package worth

import (
	"math/rand"
	"slices"
	"testing"

	"nostro/api"
	"nostro/ledger"
)

// player makes calls by chance, of worths and of their model, and changes the ledger under both.
type player struct {
	random *rand.Rand
	l      *ledger.Ledger
	w      *Worths
	m      *model
}

func newPlayer(t *testing.T, seed int64) *player {
	random := rand.New(rand.NewSource(seed))
	members, currencies := 1+random.Intn(api.MostMembers), 1+random.Intn(api.MostCurrencies)
	c := many(currencies)
	for cur := 1; cur < currencies; cur++ {
		c[cur].Rate, c[cur].Haircut = rateOf(random), random.Int63n(api.Basis+1)
	}
	var rows [][]int64
	for range members {
		row := make([]int64, currencies)
		for cur := range row {
			row[cur] = random.Int63n(1<<random.Intn(58)+1) * []int64{1, -1}[random.Intn(2)]
		}
		rows = append(rows, row)
	}
	l := laid(t, rows...)
	return &player{random: random, l: l, w: made(t, c, l), m: newModel(c, l)}
}

// rateOf is a rate of any size.
func rateOf(random *rand.Rand) int64 {
	return min(1+random.Int63n(1<<random.Intn(28)), api.MostRate)
}

// place is a number from 0 on below count, and now and then one that is none.
func (p *player) place(count int) int {
	if p.random.Intn(20) == 0 {
		return []int{-1, count, count + 1, least, most}[p.random.Intn(5)]
	}
	return p.random.Intn(count)
}

// amount is one of any size, and of both signs.
func (p *player) amount() int64 {
	if p.random.Intn(10) == 0 {
		return []int64{most, most - 1, 0, -most, least}[p.random.Intn(5)]
	}
	return (p.random.Int63() >> p.random.Intn(63)) * []int64{1, -1}[p.random.Intn(2)]
}

func (p *player) batch() []api.Posting {
	var batch []api.Posting
	for range p.random.Intn(6) {
		batch = append(batch, of(p.place(len(p.m.taken)), p.random.Intn(len(p.m.t)), p.amount()))
	}
	if p.random.Intn(10) == 0 {
		batch = append(batch, of(p.place(len(p.m.taken)), p.place(len(p.m.t)), p.amount()))
	}
	return batch
}

// step makes one call, and tells what was called, and both answers.
func (p *player) step() (string, api.Errno, api.Errno) {
	member, cur := p.place(len(p.m.taken)), p.place(len(p.m.t))
	switch p.random.Intn(6) {
	case 0:
		p.l.In(member, cur, p.amount())
	case 1:
		other := p.place(len(p.m.taken))
		amount := p.amount()
		p.l.Post([]api.Posting{of(member, cur, amount), of(other, cur, -amount)})
	case 2, 3:
		p.w.Moved(member)
		p.m.moved(p.l, member)
		return "Moved", api.OK, api.OK
	case 4:
		rate := []int64{rateOf(p.random), rateOf(p.random), p.amount(), 10000}[p.random.Intn(4)]
		return "Rate", p.w.Rate(cur, rate), p.m.rate(cur, rate)
	case 5:
		cut := []int64{p.random.Int63n(10001), p.random.Int63n(300), p.amount(), 0}[p.random.Intn(4)]
		return "Cut", p.w.Cut(cur, cut), p.m.cut(cur, cut)
	}
	return "the ledger", api.OK, api.OK
}

// Of scripts of all calls each answer is the model's, which reckons all anew.
func TestScriptsAreTheModels(t *testing.T) {
	seen := map[string]map[api.Errno]int{"Rate": {}, "Cut": {}, "If": {}, "Net": {}, "Short": {}}
	for seed := range int64(80) {
		p := newPlayer(t, seed)
		for step := range 200 {
			call, got, want := p.step()
			if got != want {
				t.Fatalf("seed %d, step %d: %s is %d, not %d", seed, step, call, got, want)
			}
			if seen[call] != nil {
				seen[call][got]++
			}
			p.m.same(t, p.w)
			member, batch := p.place(len(p.m.taken)), p.batch()
			p.m.sameIf(t, p.w, member, batch)
			_, _, err := p.w.If(member, batch)
			seen["If"][err]++
			_, err = p.w.Net(member)
			seen["Net"][err]++
			_, err = p.w.Short(member)
			seen["Short"][err]++
		}
		again, err := New(p.w.Table(), p.l)
		wants(t, "New", err, api.OK)
		for member := range p.m.taken {
			p.w.Moved(member)
			p.m.moved(p.l, member)
		}
		p.m.same(t, again)
		p.m.same(t, p.w)
	}
	for call, counts := range seen {
		for _, err := range []api.Errno{api.OK, api.ErrArg, api.ErrOver} {
			if counts[err] < 100 && (err != api.ErrOver || call != "Rate" && call != "Cut") {
				t.Errorf("only %d of %s answered %d", counts[err], call, err)
			}
		}
	}
}

// A greater haircut never lets a net worth be greater, nor changes what is short.
func TestThatAGreaterHaircutLetsNoNetWorthBeGreater(t *testing.T) {
	cuts := []int64{0, 1, 2, 199, 200, 5000, 9999, 10000}
	amounts := []int64{-1 << 50, -1000, -161, -100, -1, 0, 1, 100, 161, 1000, 1 << 50}
	for _, dollars := range amounts {
		for _, yen := range amounts {
			w := made(t, three(), laid(t, []int64{3, dollars, yen}))
			short, _ := w.Short(0)
			for cur := 1; cur <= 2; cur++ {
				var nets []int64
				for _, cut := range cuts {
					wants(t, "Cut", w.Cut(cur, cut), api.OK)
					net, err := w.Net(0)
					wants(t, "Net", err, api.OK)
					nets = append(nets, -net)
					stands(t, "by a haircut", w, 0, net, short)
				}
				if !slices.IsSorted(nets) {
					t.Errorf("%d, %d, haircuts of currency %d: %v less", dollars, yen, cur, nets)
				}
			}
		}
	}
}

// Worths of one ledger know nothing of one another, and the ledger isn't changed by any.
func TestThatNothingElseIsKept(t *testing.T) {
	l := laid(t, []int64{1007, -100, 0}, []int64{-7, 500, 10000})
	before := l.Text()
	one, other := made(t, three(), l), made(t, three(), l)
	wants(t, "Rate", one.Rate(1, 20000), api.OK)
	wants(t, "Cut", one.Cut(2, 0), api.OK)
	one.If(0, []api.Posting{of(0, 0, 5)})
	one.Moved(0)
	newModel(three(), l).same(t, other)
	if l.Text() != before {
		t.Error("the ledger was changed")
	}
}
