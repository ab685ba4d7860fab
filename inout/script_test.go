package inout

import (
	"math/rand"
	"testing"

	"nostro/api"
	"nostro/deal"
	"nostro/plan"
)

// player makes arguments by chance.
type player struct {
	random *rand.Rand
	size   int // of amounts, in bits
}

func newPlayer(seed int64) *player {
	return &player{random: rand.New(rand.NewSource(seed)), size: []int{3, 12, 30, 62}[seed%4]}
}

// amount is above 0, of up to as many bits as there are, and where it may be great now and then nearly the greatest one.
func (p *player) amount() int64 {
	if p.size > 60 && p.random.Intn(12) == 0 {
		return most - p.random.Int63n(1<<p.random.Intn(p.size))
	}
	return 1 + p.random.Int63n(1<<(1+p.random.Intn(p.size)))
}

// any is an amount of either sign, 0 and the least one among them.
func (p *player) any() int64 {
	switch p.random.Intn(6) {
	case 0:
		return 0
	case 1, 2:
		return p.amount()
	case 3:
		if p.size > 60 && p.random.Intn(10) == 0 {
			return least
		}
	}
	return -p.amount()
}

// table is of currencies of any rates, great ones among them.
func (p *player) table() []api.Currency {
	t := many(1 + p.random.Intn(8))
	for place := 1; place < len(t); place++ {
		switch p.random.Intn(3) {
		case 0:
			t[place].Rate = 1 + p.random.Int63n(api.MostRate)
		case 1:
			t[place].Rate = 1 + p.random.Int63n(30000)
		}
	}
	if p.random.Intn(60) == 0 {
		t[p.random.Intn(len(t))].Rate = 0
	}
	return t
}

// nets are any, of so many currencies, of now and then too many members, or too few currencies.
func (p *player) nets(currencies int) [][]int64 {
	var net [][]int64
	for range p.random.Intn(17) {
		var row []int64
		for range currencies {
			row = append(row, p.any())
		}
		net = append(net, row)
	}
	if p.random.Intn(60) == 0 {
		net = append(net, rows(10, currencies)...)
	}
	if len(net) > 0 && p.random.Intn(60) == 0 {
		net[0] = net[0][:currencies-1]
	}
	return net
}

// even are nets that are together 0 of each currency but the base: so much goes from one member to another one, often.
func (p *player) even(currencies int) [][]int64 {
	net := rows(1+p.random.Intn(16), currencies)
	for range p.random.Intn(60) {
		from, to, cur := p.random.Intn(len(net)), p.random.Intn(len(net)), p.random.Intn(currencies)
		amount := p.amount() >> 6
		net[from][cur] -= amount
		net[to][cur] += amount
	}
	return net
}

// from is a least amount, mostly a small one.
func (p *player) from() int64 {
	switch p.random.Intn(8) {
	case 0:
		return p.amount()
	case 1:
		return int64(p.random.Intn(5)) - 1
	}
	return 1 + int64(p.random.Intn(3))
}

// check holds Propose against the model, and tells how many proposals there were.
func (p *player) check(t *testing.T, l []api.Currency, net [][]int64, from int64) (int, api.Errno) {
	t.Helper()
	swaps, then, err := modelPropose(l, net, from)
	proposes(t, "script", l, net, from, swaps, then, err)
	if err == api.OK {
		follows(t, net, then, len(l))
	}
	return len(swaps), err
}

// follows tells where nets together aren't what they were, or one but the base's is of another sign, or greater.
func follows(t *testing.T, net, then [][]int64, currencies int) {
	t.Helper()
	for cur := range currencies {
		if was, is := column(net, cur), column(then, cur); was.Cmp(is) != 0 {
			t.Fatalf("of currency %d all nets %v were together %v, and are %v", cur, net, was, is)
		}
		for member := range net {
			was, is := net[member][cur], then[member][cur]
			if cur > 0 && (was <= 0 && (is > 0 || is < was) || was >= 0 && (is < 0 || is > was)) {
				t.Fatalf("of currency %d member %d had %d, and has %d", cur, member, was, is)
			}
		}
	}
}

// Of any arguments Propose answers as the model does.
func TestAnyNetsAreTheModels(t *testing.T) {
	count, some := map[api.Errno]int{}, 0
	for seed := range int64(4000) {
		p := newPlayer(seed)
		l := p.table()
		swaps, err := p.check(t, l, p.nets(len(l)), p.from())
		count[err]++
		some += min(swaps, 1)
	}
	for _, err := range []api.Errno{api.OK, api.ErrArg, api.ErrMany, api.ErrOver} {
		if count[err] < 30 {
			t.Errorf("only %d answered %d", count[err], err)
		}
	}
	if some < 1000 {
		t.Errorf("only %d times there were proposals", some)
	}
}

// Where nets are together 0, by a least of 1, all but the base's are 0 then.
func TestEvenNetsAreNoneThen(t *testing.T) {
	done := 0
	for seed := range int64(2000) {
		p := newPlayer(seed)
		l := many(1 + p.random.Intn(8))
		net := p.even(len(l))
		if swaps, err := p.check(t, l, net, 1); err == api.OK {
			none(t, l, net)
			done += min(swaps, 1)
		}
		p.check(t, l, net, p.from())
	}
	if done < 1000 {
		t.Errorf("only %d times there were proposals", done)
	}
}

// none tells where a net that isn't the base's isn't 0 behind all proposals from 1 on.
func none(t *testing.T, l []api.Currency, net [][]int64) {
	t.Helper()
	_, then, err := Propose(l, net, 1)
	if err != api.OK {
		t.Fatalf("Propose(%v, %v, 1) = %d", l, net, err)
	}
	for member, row := range then {
		for cur := 1; cur < len(row); cur++ {
			if row[cur] != 0 {
				t.Fatalf("member %d has %d of currency %d still: %v became %v", member, row[cur], cur, net, then)
			}
		}
	}
}

// The nets of a book's instructions, which are together 0, are none then.
func TestNetsOfABookAreNoneThen(t *testing.T) {
	for seed := range int64(100) {
		p := newPlayer(4*seed + 1)
		b, _ := deal.New(6, 4)
		for id := 1; id <= 30; id++ {
			at, cur := p.random.Perm(6), p.random.Perm(4)
			d := api.Deal{Id: id, A: at[0], B: at[1], SellCur: cur[0], BuyCur: cur[1], Sell: p.amount(), Buy: p.amount()}
			b.Submit(d)
			b.Submit(api.Deal{Id: id, A: d.B, B: d.A, SellCur: d.BuyCur, BuyCur: d.SellCur, Sell: d.Buy, Buy: d.Sell})
		}
		net, err := plan.Net(b, 6, 4)
		if err != api.OK || len(b.All(deal.Matched)) != 30 {
			t.Fatalf("Net = %v, %d", net, err)
		}
		p.check(t, many(4), net, 1)
		none(t, many(4), net)
	}
}
