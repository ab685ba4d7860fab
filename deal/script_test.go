package deal

import (
	"math/rand"
	"slices"
	"testing"

	"nostro/api"
)

// player makes calls by chance, of a book and of its model.
type player struct {
	random *rand.Rand
	b      *Book
	m      *model
	most   int // how many Ids there are to choose from
}

// newPlayer begins with a book that knows nothing, or, where there are many Ids, nearly as many as it may.
func newPlayer(t *testing.T, seed int64) *player {
	random := rand.New(rand.NewSource(seed))
	members, currencies := 2+random.Intn(api.MostMembers-1), 2+random.Intn(api.MostCurrencies-1)
	if random.Intn(3) > 0 {
		members = 2 + random.Intn(2)
	}
	p := &player{random, made(t, members, currencies), newModel(members, currencies), []int{6, 30, 400}[random.Intn(3)]}
	for id := 1; p.most == 400 && id <= 180; id++ {
		submits(t, p.b, one(2*id), false, api.OK)
		p.m.submit(one(2 * id))
	}
	return p
}

// place is a number from 0 on below count, and now and then one that is none.
func (p *player) place(count int) int {
	if p.random.Intn(40) == 0 {
		return []int{-1, count, count + 1, 256, least, most}[p.random.Intn(6)]
	}
	return p.random.Intn(count)
}

// id is one by chance, or one that is matched, or none.
func (p *player) id() int {
	if l := p.m.all(Matched); len(l) > 0 && p.random.Intn(3) == 0 {
		return l[p.random.Intn(len(l))]
	}
	if p.random.Intn(40) == 0 {
		return []int{0, -1, 1<<31 - 1, 1 << 31, 1 << 32, most, least}[p.random.Intn(7)]
	}
	return 1 + p.random.Intn(p.most)
}

// deal is most often the mirror of one that is known, as it is or nearly.
func (p *player) deal() api.Deal {
	if len(p.m.came) > 0 && p.random.Intn(3) > 0 {
		d := p.m.first[p.m.came[p.random.Intn(len(p.m.came))]]
		switch p.random.Intn(8) {
		case 0:
			return d
		case 1:
			d.Sell++
		case 2:
			d.A, d.B = p.place(p.m.members), p.place(p.m.members)
		case 3:
			d.BuyCur = p.place(p.m.currencies)
		}
		return turned(d)
	}
	d := api.Deal{Id: p.id(), A: p.place(p.m.members), B: p.place(p.m.members), SellCur: p.place(p.m.currencies), BuyCur: p.place(p.m.currencies)}
	d.Sell, d.Buy = 1+p.random.Int63n(3), 1+p.random.Int63()
	if p.random.Intn(40) == 0 {
		d.Buy = []int64{0, -1, least, most}[p.random.Intn(4)]
	}
	return d
}

// step makes a call of both; told is its name, what became of it, and whether both answered alike.
func (p *player) step() (string, api.Errno, bool) {
	switch p.random.Intn(12) {
	case 0, 1:
		member, id := p.place(p.m.members), p.id()
		if d := p.m.first[id]; p.random.Intn(2) == 0 {
			member = []int{d.A, d.B}[p.random.Intn(2)]
		}
		state, err := p.b.Rescind(member, id)
		wantState, want := p.m.rescind(member, id)
		return "Rescind", err, state == wantState && err == want
	case 2, 3:
		id := p.id()
		err, want := p.b.Settle(id), p.m.settle(id)
		return "Settle", err, err == want
	case 4:
		if p.random.Intn(4) == 0 {
			member := p.place(p.m.members)
			return "Remove", api.OK, slices.Equal(p.b.Remove(member), p.m.remove(member))
		}
	}
	d := p.deal()
	match, err := p.b.Submit(d)
	wantMatch, want := p.m.submit(d)
	return "Submit", err, match == wantMatch && err == want
}

// follows tells where what was settled, gone or known isn't any more, behind a call of a book that had that text.
func follows(t *testing.T, call, before string, m *model) {
	t.Helper()
	was := modelOf(before, m.members, m.currencies)
	for at, id := range was.came {
		if m.came[at] != id || m.first[id] != was.first[id] {
			t.Fatalf("%s: %d isn't known as it was", call, id)
		}
		if state := was.states[id]; m.states[id] < state || state == Settled && m.states[id] != Settled {
			t.Fatalf("%s: %d was %d, and is %d", call, id, state, m.states[id])
		}
	}
}

// Of scripts of all calls each answer is the model's, and so is all that is known; an error changes nothing; a book that
// is read from its text goes on as it did.
func TestScriptsAreTheModels(t *testing.T) {
	seen := map[string]map[api.Errno]int{}
	for seed := range int64(60) {
		p := newPlayer(t, seed)
		for step := range 400 {
			before := p.b.Text()
			call, err, alike := p.step()
			if !alike {
				t.Fatalf("seed %d, step %d: %s answers %d", seed, step, call, err)
			}
			if seen[call] == nil {
				seen[call] = map[api.Errno]int{}
			}
			seen[call][err]++
			if err != api.OK && p.b.Text() != before {
				t.Fatalf("seed %d, step %d: %s is %d, and changed it", seed, step, call, err)
			}
			p.m.same(t, p.b)
			follows(t, call, before, modelOf(p.b.Text(), p.m.members, p.m.currencies))
			if p.random.Intn(20) == 0 {
				again, err := Read(p.b.Text(), p.m.members, p.m.currencies)
				if err != api.OK {
					t.Fatalf("seed %d, step %d: Read: %d", seed, step, err)
				}
				p.b = again
			}
		}
	}
	for call, errors := range map[string][]api.Errno{
		"Submit":  {api.OK, api.ErrArg, api.ErrMany, api.ErrTwice, api.ErrUnfit},
		"Rescind": {api.OK, api.ErrName, api.ErrPhase, api.ErrTwice},
		"Settle":  {api.OK, api.ErrName, api.ErrPhase},
		"Remove":  {api.OK},
	} {
		for _, err := range errors {
			if seen[call][err] < 10 {
				t.Errorf("only %d of %s answered %d", seen[call][err], call, err)
			}
		}
	}
}
