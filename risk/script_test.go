package risk

import (
	"math/rand"
	"testing"

	"nostro/api"
)

// player makes calls by chance, of a guard and of its model.
type player struct {
	random *rand.Rand
	g      *Guard
	m      *model
}

// newPlayer begins with balances by chance, small ones or up to any size.
func newPlayer(t *testing.T, seed int64) *player {
	random := rand.New(rand.NewSource(seed))
	members, currencies := 1+random.Intn(api.MostMembers), 1+random.Intn(api.MostCurrencies)
	var c []api.Currency
	var rows [][]int64
	var limits []api.Limit
	for cur := range currencies {
		c = append(c, api.Currency{Code: "AA" + string(rune('A'+cur)), Rate: 10000})
		if cur > 0 {
			c[cur].Rate, c[cur].Haircut = rateOf(random), random.Int63n(1000)
		}
	}
	size := []int{8, 8, 58}[random.Intn(3)]
	for range members {
		l := api.Limit{All: random.Int63n(1 << (1 + random.Intn(size+4)))}
		row := make([]int64, currencies)
		for cur := range row {
			l.Short = append(l.Short, random.Int63n(1<<(1+random.Intn(size+3))))
			row[cur] = random.Int63n(1<<(1+random.Intn(size))) * []int64{1, 1, 1, -1}[random.Intn(4)]
		}
		rows, limits = append(rows, row), append(limits, l)
	}
	l := laid(t, rows...)
	return &player{random: random, g: made(t, c, l, limits...), m: newModel(c, l, limits)}
}

// rateOf is most often a rate about the base's, else one of any size.
func rateOf(random *rand.Rand) int64 {
	if random.Intn(3) > 0 {
		return 5000 + random.Int63n(10000)
	}
	return min(1+random.Int63n(1<<random.Intn(28)), api.MostRate)
}

// place is a number from 0 on below count, and now and then one that is none.
func (p *player) place(count int) int {
	if p.random.Intn(30) == 0 {
		return []int{-1, count, count + 1, least, most}[p.random.Intn(5)]
	}
	return p.random.Intn(count)
}

// amount is a small one, one about the ends, or one about what the member, or the nostro, has.
func (p *player) amount(member, cur int) int64 {
	switch p.random.Intn(12) {
	case 0, 1:
		return p.m.l.Get(member, cur) + int64(p.random.Intn(3)) - 1
	case 2:
		return p.m.l.Nostro(cur) + int64(p.random.Intn(3)) - 1
	case 3:
		return []int64{most, most - 1, 1 << 62, 0, -1, least}[p.random.Intn(6)]
	case 4:
		return p.random.Int63() >> p.random.Intn(63)
	}
	return int64(p.random.Intn(40)) + 1
}

// batch is most often even.
func (p *player) batch() []api.Posting {
	var batch []api.Posting
	for range p.random.Intn(4) {
		from, to, cur := p.place(len(p.m.flags)), p.place(len(p.m.flags)), p.place(len(p.m.t))
		amount := p.amount(from, cur)
		batch = append(batch, of(from, cur, -amount), of(to, cur, amount))
	}
	if p.random.Intn(12) == 0 {
		batch = append(batch, of(p.place(len(p.m.flags)), p.place(len(p.m.t)), p.amount(0, 0)))
	}
	p.random.Shuffle(len(batch), func(i, j int) { batch[i], batch[j] = batch[j], batch[i] })
	return batch
}

// step makes one call, and tells what was called, and both answers.
func (p *player) step() (string, api.Errno, api.Errno) {
	member, cur := p.place(len(p.m.flags)), p.place(len(p.m.t))
	amount := p.amount(member, cur)
	switch p.random.Intn(10) {
	case 0, 1:
		return "In", p.g.In(member, cur, amount), p.m.in(member, cur, amount)
	case 2, 3:
		return "Out", p.g.Out(member, cur, amount), p.m.out(member, cur, amount)
	case 4:
		other := p.place(len(p.m.t))
		given := p.amount(member, other)
		return "Swap", p.g.Swap(member, cur, other, amount, given), p.m.swap(member, cur, other, amount, given)
	case 5:
		batch := p.batch()
		return "Take", p.g.Take(batch), p.m.take(batch)
	case 6:
		rate := []int64{rateOf(p.random), rateOf(p.random), p.amount(0, 0), 10000}[p.random.Intn(4)]
		return "Rate", p.g.Rate(cur, rate), p.m.rate(cur, rate)
	case 7:
		cut := []int64{p.random.Int63n(10001), p.random.Int63n(300), p.amount(0, 0), 0}[p.random.Intn(4)]
		return "Cut", p.g.Cut(cur, cut), p.m.cut(cur, cut)
	}
	batch := p.batch()
	return "Book", p.g.Book(batch), p.m.book(batch)
}

// follows tells where behind a call there is something that can't follow from it, of what there was ahead of it.
func follows(t *testing.T, call string, before, after *model) {
	t.Helper()
	free := call == "Rate" || call == "Cut" || call == "Take" || call == "Swap"
	for member, flagged := range after.flags {
		if failed := after.fails(member, nil); flagged != (failed != 0) {
			t.Fatalf("%s: member %d is flagged %v, and fails %d", call, member, flagged, failed)
		}
		if flagged && !before.flags[member] && !free {
			t.Fatalf("%s: member %d was flagged", call, member)
		}
		for cur := range after.t {
			if before.flags[member] && !free && after.l.Get(member, cur) < before.l.Get(member, cur) {
				t.Fatalf("%s: member %d is flagged, and was debited", call, member)
			}
		}
	}
}

// now is a model of what the guard itself has and tells.
func (p *player) now() *model {
	m := newModel(p.g.Worths().Table(), p.g.Ledger(), p.m.limits)
	for member := range m.flags {
		m.flags[member] = p.g.Flagged(member)
	}
	return m
}

// Of scripts of all calls each answer is the model's, and so is all that there is; an error changes nothing; flags and
// balances follow as the chapter tells.
func TestScriptsAreTheModels(t *testing.T) {
	seen := map[string]map[api.Errno]int{}
	for seed := range int64(80) {
		p := newPlayer(t, seed)
		p.m.same(t, p.g)
		for step := range 120 {
			before := p.now()
			call, got, want := p.step()
			if got != want {
				t.Fatalf("seed %d, step %d: %s is %d, not %d", seed, step, call, got, want)
			}
			if seen[call] == nil {
				seen[call] = map[api.Errno]int{}
			}
			seen[call][got]++
			follows(t, call, before, p.now())
			if got != api.OK {
				before.same(t, p.g)
			}
			p.m.same(t, p.g)
			p.m.sameFails(t, p.g, p.place(len(p.m.flags)), p.batch())
		}
	}
	for call, errors := range map[string][]api.Errno{
		"In": {api.OK, api.ErrArg, api.ErrOver}, "Out": {api.OK, api.ErrArg, api.ErrRisk},
		"Swap": {api.OK, api.ErrArg, api.ErrRisk, api.ErrOver}, "Rate": {api.OK, api.ErrArg}, "Cut": {api.OK, api.ErrArg},
		"Take": {api.OK, api.ErrArg, api.ErrUnfit, api.ErrOver},
		"Book": {api.OK, api.ErrArg, api.ErrUnfit, api.ErrOver, api.ErrRisk},
	} {
		for _, err := range errors {
			if seen[call][err] < 10 {
				t.Errorf("only %d of %s answered %d", seen[call][err], call, err)
			}
		}
	}
}

// Where others change the ledger, too, each answer is still of what the ledger has.
func TestScriptsOfALedgerThatOthersChange(t *testing.T) {
	for seed := range int64(40) {
		p := newPlayer(t, seed)
		for step := range 100 {
			if p.random.Intn(3) == 0 {
				batch := p.batch()
				wants(t, "Post", p.g.Ledger().Post(batch), p.m.l.Post(batch))
			}
			call, got, want := p.step()
			if got != want {
				t.Fatalf("seed %d, step %d: %s is %d, not %d", seed, step, call, got, want)
			}
			for member := range p.m.flags {
				p.m.sameFails(t, p.g, member, nil)
				if p.g.Flagged(member) != p.m.flags[member] {
					t.Fatalf("seed %d, step %d: behind %s member %d is flagged %v", seed, step, call, member, p.g.Flagged(member))
				}
			}
			p.m.same(t, p.g)
		}
	}
}
