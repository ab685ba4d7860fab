package settle

import (
	"math/rand"
	"slices"
	"testing"

	"nostro/api"
	"nostro/deal"
	"nostro/risk"
)

// player makes calls by chance, of a guard and a book.
type player struct {
	random              *rand.Rand
	members, currencies int
	size                int // of amounts, in bits
	limits              []api.Limit
	g                   *risk.Guard
	b                   *deal.Book
}

// newPlayer begins with few members, so that they wait for one another, and with small amounts or with any.
func newPlayer(t *testing.T, seed int64) *player {
	random := rand.New(rand.NewSource(seed))
	p := &player{random: random, members: 2 + random.Intn(3), currencies: 2 + random.Intn(2), size: []int{4, 7, 62}[seed%3]}
	var table []api.Currency
	for cur := range p.currencies {
		table = append(table, api.Currency{Code: "AA" + string(rune('A'+cur)), Rate: 10000})
		if cur > 0 {
			table[cur].Rate, table[cur].Haircut = 8000+random.Int63n(4000), random.Int63n(500)
		}
	}
	var rows [][]int64
	for range p.members {
		l, row := api.Limit{All: p.amount()}, make([]int64, p.currencies)
		for cur := range row {
			l.Short = append(l.Short, p.amount()*int64(random.Intn(2)))
			row[cur] = (p.amount() - p.amount()) / 4
		}
		p.limits, rows = append(p.limits, l), append(rows, row)
	}
	p.g = guarded(t, table, p.limits, rows...)
	b, err := deal.New(p.members, p.currencies)
	wants(t, "deal.New", err, api.OK)
	p.b = b
	return p
}

// amount is one of up to as many bits as there are, mostly of fewer, and where it may be great now and then nearly the
// greatest one.
func (p *player) amount() int64 {
	if p.size > 60 && p.random.Intn(6) == 0 {
		return most - p.random.Int63n(1<<(1+p.random.Intn(p.size)))
	}
	return 1 + p.random.Int63n(1<<(1+p.random.Intn(p.size)))
}

// id is often one that is matched, and now and then one that there can't be.
func (p *player) id() int {
	if l := p.b.All(deal.Matched); len(l) > 0 && p.random.Intn(2) == 0 {
		return l[p.random.Intn(len(l))]
	}
	if p.random.Intn(20) == 0 {
		return []int{0, -1, api.MostDeals + 1, 1<<31 - 1, 1 << 32, most, least}[p.random.Intn(7)]
	}
	return 1 + p.random.Intn(api.MostDeals)
}

// change makes one call by which there is something to be settled, or nothing to be any more.
func (p *player) change() {
	switch member, cur := p.random.Intn(p.members), p.random.Intn(p.currencies); p.random.Intn(16) {
	case 0, 1, 2:
		p.g.In(member, cur, p.amount())
	case 3:
		p.g.Rate(cur, 5000+p.random.Int63n(10000))
	case 4:
		p.g.Cut(cur, p.random.Int63n(1000))
	case 5:
		p.b.Rescind(member, p.id())
	case 6:
		if p.random.Intn(20) == 0 {
			p.b.Remove(member)
		}
	default:
		p.submit()
	}
}

// submit submits an instruction by chance, or matches one that is alone.
func (p *player) submit() {
	if alone := p.b.All(deal.Alone); len(alone) > 0 && p.random.Intn(3) > 0 {
		d, _ := p.b.Deal(alone[p.random.Intn(len(alone))])
		p.b.Submit(mirror(d))
		return
	}
	p.b.Submit(api.Deal{
		Id: 1 + p.random.Intn(api.MostDeals), A: p.random.Intn(p.members), B: p.random.Intn(p.members),
		SellCur: p.random.Intn(p.currencies), BuyCur: p.random.Intn(p.currencies),
		Sell: p.amount(), Buy: p.amount(),
	})
}

// try tries one, and tells what Try answered: it must be what the model answers, and so must be all that there is.
func (p *player) try(t *testing.T) api.Errno {
	t.Helper()
	id, before, m := p.id(), modelOf(t, p.g, p.b, p.limits), modelOf(t, p.g, p.b, p.limits)
	got, want := Try(p.g, p.b, id), m.try(id)
	if got != want {
		t.Fatalf("Try(%d) = %d, not %d", id, got, want)
	}
	var ids []int
	if got == api.OK {
		ids = append(ids, id)
	}
	p.follows(t, before, m, ids)
	return got
}

// cycle cycles, likewise, and tells how many passes there were.
func (p *player) cycle(t *testing.T) int {
	t.Helper()
	before, m := modelOf(t, p.g, p.b, p.limits), modelOf(t, p.g, p.b, p.limits)
	ids, passes := Cycle(p.g, p.b)
	if want, made := m.cycle(); !slices.Equal(ids, want) || passes != made {
		t.Fatalf("Cycle() = %v, %d, not %v, %d", ids, passes, want, made)
	}
	p.follows(t, before, m, ids)
	if matched := len(before.b.All(deal.Matched)); passes < 1 || passes > matched+1 || (passes == 1) != (len(ids) == 0) {
		t.Fatalf("%d passes, of %d matched ones, settled %v", passes, matched, ids)
	}
	p.noneIsLeft(t)
	return passes
}

// follows tells where something isn't as the model has it, or what can't follow from what there was before these Ids
// were settled.
func (p *player) follows(t *testing.T, before, m *model, ids []int) {
	t.Helper()
	if whole(p.g, p.b) != whole(m.g, m.b) {
		t.Fatalf("behind %v: %x, not %x", ids, whole(p.g, p.b), whole(m.g, m.b))
	}
	before.bothLegs(t, p.g, ids)
	before.settled(t, p.b, ids)
	before.safe(t, p.g)
}

// noneIsLeft tells where one can be settled behind a cycle, or trying it changes something.
func (p *player) noneIsLeft(t *testing.T) {
	t.Helper()
	text := whole(p.g, p.b)
	for _, id := range p.b.All(deal.Matched) {
		if err := Try(p.g, p.b, id); err != api.ErrRisk && err != api.ErrOver {
			t.Fatalf("behind a cycle Try(%d) = %d", id, err)
		}
	}
	cycles(t, "behind a cycle", p.g, p.b, 1)
	if whole(p.g, p.b) != text {
		t.Fatal("behind a cycle trying changed something")
	}
}

// Of scripts of all calls each Try and each Cycle answers what the model answers; both legs are booked, or none; who
// isn't flagged passes; behind a cycle none can be settled.
func TestScriptsAreTheModels(t *testing.T) {
	tries, passes := map[api.Errno]int{}, map[int]int{}
	for seed := range int64(200) {
		p := newPlayer(t, seed)
		for range 300 {
			p.change()
			switch p.random.Intn(20) {
			case 0:
				passes[min(p.cycle(t), 4)]++
			case 1, 2:
				tries[p.try(t)]++
			}
		}
	}
	for _, err := range []api.Errno{api.OK, api.ErrName, api.ErrPhase, api.ErrRisk, api.ErrOver} {
		if tries[err] < 10 {
			t.Errorf("only %d of Try answered %d", tries[err], err)
		}
	}
	for made := 1; made <= 4; made++ {
		if passes[made] < 10 {
			t.Errorf("only %d cycles had %d passes", passes[made], made)
		}
	}
}

// Where each has ahead what it must pay by all instructions, and nobody may be short of anything, one pass settles all,
// in the order in which they were matched, at any rates and haircuts.
func TestThatOnePassSettlesWhatIsThereAhead(t *testing.T) {
	for seed := range int64(60) {
		random := rand.New(rand.NewSource(seed))
		table := even()
		table[1].Rate, table[2].Rate = 1+random.Int63n(30000), 1+random.Int63n(30000)
		table[1].Haircut, table[2].Haircut = random.Int63n(api.Basis+1), random.Int63n(api.Basis+1)
		members := 2 + random.Intn(api.MostMembers-1)
		g, b := guarded(t, table, alike(members, 0), slices.Repeat([][]int64{{0, 0, 0}}, members)...), book(t, members)
		var want []int
		for id := 1; len(want) < int(seed); id++ {
			at, cur := random.Perm(members), random.Perm(3)
			d := api.Deal{Id: id, A: at[0], B: at[1], SellCur: cur[0], BuyCur: cur[1]}
			d.Sell, d.Buy = 1+random.Int63n(1000), 1+random.Int63n(1000)
			submit(t, b, d, false)
			submit(t, b, mirror(d), true)
			wants(t, "In", g.In(d.A, d.SellCur, d.Sell), api.OK)
			wants(t, "In", g.In(d.B, d.BuyCur, d.Buy), api.OK)
			want = append(want, id)
		}
		cycles(t, "all is there ahead", g, b, min(len(want), 1)+1, want...)
		if left := b.All(deal.Matched); len(left) != 0 {
			t.Errorf("seed %d: %v are left", seed, left)
		}
	}
}
