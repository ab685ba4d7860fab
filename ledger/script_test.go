package ledger

import (
	"math/rand"
	"slices"
	"testing"

	"nostro/api"
)

// player makes calls by chance, of a ledger and of its model.
type player struct {
	random *rand.Rand
	l      *Ledger
	m      *model
}

// place is a number from 0 on below count, and now and then one that is none.
func (p *player) place(count int) int {
	if p.random.Intn(30) == 0 {
		return []int{-1, count, count + 1, least, most}[p.random.Intn(5)]
	}
	return p.random.Intn(count)
}

// amount is a small one, one about the ends, or one about what the member, or the nostro, has.
func (p *player) amount(member, cur int) int64 {
	switch p.random.Intn(6) {
	case 0:
		return p.l.Get(member, cur) + int64(p.random.Intn(3)) - 1
	case 1:
		return p.l.Nostro(cur) + int64(p.random.Intn(3)) - 1
	case 2:
		return []int64{most, most - 1, 1 << 62, 0, -1, least}[p.random.Intn(6)]
	}
	return int64(p.random.Intn(100)) + 1
}

// batch is most often even.
func (p *player) batch() []api.Posting {
	var batch []api.Posting
	for range p.random.Intn(5) {
		from, to, cur := p.place(len(p.m.balances)), p.place(len(p.m.balances)), p.place(len(p.m.nostros))
		amount := p.amount(from, cur)
		batch = append(batch, of(from, cur, -amount), of(to, cur, amount))
	}
	if p.random.Intn(10) == 0 {
		batch = append(batch, of(p.place(len(p.m.balances)), p.place(len(p.m.nostros)), p.amount(0, 0)))
	}
	p.random.Shuffle(len(batch), func(i, j int) { batch[i], batch[j] = batch[j], batch[i] })
	return batch
}

// step makes one call, and tells what was called, and both answers.
func (p *player) step() (string, api.Errno, api.Errno) {
	member, cur := p.place(len(p.m.balances)), p.place(len(p.m.nostros))
	amount := p.amount(member, cur)
	switch p.random.Intn(4) {
	case 0:
		return "In", p.l.In(member, cur, amount), p.m.in(member, cur, amount)
	case 1:
		return "Out", p.l.Out(member, cur, amount), p.m.out(member, cur, amount)
	case 2:
		other := p.place(len(p.m.nostros))
		given := p.amount(member, other)
		return "Swap", p.l.Swap(member, cur, other, amount, given), p.m.swap(member, cur, other, amount, given)
	}
	batch := p.batch()
	return "Post", p.l.Post(batch), p.m.post(batch)
}

// Of scripts of all calls each answer is the model's, and so is all that there is; the sums hold behind each call, and
// neither an Out nor a Swap lets a nostro be below 0.
func TestScriptsAreTheModels(t *testing.T) {
	seen := map[string]map[api.Errno]int{"In": {}, "Out": {}, "Swap": {}, "Post": {}}
	for seed := range int64(60) {
		random := rand.New(rand.NewSource(seed))
		members, currencies := 1+random.Intn(api.MostMembers), 1+random.Intn(api.MostCurrencies)
		p := &player{random: random, l: made(t, members, currencies), m: newModel(members, currencies)}
		for step := range 400 {
			before := p.l.Text()
			call, got, want := p.step()
			if got != want {
				t.Fatalf("seed %d, step %d: %s is %d, not %d", seed, step, call, got, want)
			}
			if got != api.OK && p.l.Text() != before {
				t.Fatalf("seed %d, step %d: %s is %d, and changed something", seed, step, call, got)
			}
			seen[call][got]++
			p.m.same(t, p.l)
			p.holds(t)
		}
	}
	for call, all := range map[string][]api.Errno{
		"In":   {api.OK, api.ErrArg, api.ErrOver},
		"Out":  {api.OK, api.ErrArg, api.ErrRisk},
		"Swap": {api.OK, api.ErrArg, api.ErrRisk, api.ErrOver},
		"Post": {api.OK, api.ErrArg, api.ErrUnfit, api.ErrOver},
	} {
		for _, err := range all {
			if seen[call][err] == 0 {
				t.Errorf("no %s answered %d", call, err)
			}
		}
	}
}

func (p *player) holds(t *testing.T) {
	t.Helper()
	if !p.m.balanced() {
		t.Fatal("the balances aren't together the nostro")
	}
	for cur := range p.m.nostros {
		if p.l.Nostro(cur) < 0 {
			t.Fatalf("nostro %d is %d", cur, p.l.Nostro(cur))
		}
	}
	again, err := Read(p.l.Text())
	if err != api.OK {
		t.Fatalf("Read: %d", err)
	}
	p.m.same(t, again)
}

func TestThatNoOutMakesABalanceNegative(t *testing.T) {
	amounts := []int64{least, -most, -10, -1, 0, 1, 2, 9, 10, 11, most - 1, most}
	for _, one := range amounts {
		for _, other := range amounts {
			sums := newModel(1, 1)
			sums.nostros[0] = more(more(sums.nostros[0], one), other)
			if !sums.nostros[0].IsInt64() {
				continue
			}
			text := laid(2, 1, sums.nostros[0].Int64(), one, other)
			for _, amount := range amounts {
				l, err := Read(text)
				wants(t, "Read", err, api.OK)
				m := modelOf(text)
				wants(t, "Out", l.Out(0, 0, amount), m.out(0, 0, amount))
				m.same(t, l)
				if one >= 0 && l.Get(0, 0) < 0 || sums.nostros[0].Sign() >= 0 && l.Nostro(0) < 0 {
					t.Errorf("%d, %d: Out of %d leaves %d of %d", one, other, amount, l.Get(0, 0), l.Nostro(0))
				}
			}
		}
	}
}

func TestThatABatchIsTakenOff(t *testing.T) {
	taken := 0
	for seed := range int64(40) {
		random := rand.New(rand.NewSource(seed))
		p := &player{random: random, l: made(t, 4, 3), m: newModel(4, 3)}
		for range 100 {
			p.step()
			batch := p.batch()
			off, may := takenOff(batch)
			before := p.l.Text()
			if !may || p.l.Post(batch) != api.OK {
				continue
			}
			taken++
			if err := p.l.Post(off); err != api.OK {
				t.Fatalf("seed %d: %v was done, %v is %d", seed, batch, off, err)
			}
			if got := p.l.Text(); got != before {
				t.Fatalf("seed %d: %v and %v leave %x, not %x", seed, batch, off, got, before)
			}
		}
	}
	if taken < 1000 {
		t.Errorf("only %d were taken off", taken)
	}
}

// takenOff is what takes a batch off, the last posting first; the least amount has no other sign.
func takenOff(batch []api.Posting) ([]api.Posting, bool) {
	off := slices.Clone(batch)
	slices.Reverse(off)
	for place := range off {
		if off[place].Amount == least {
			return nil, false
		}
		off[place].Amount = -off[place].Amount
	}
	return off, true
}
