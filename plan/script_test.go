package plan

import (
	"math/big"
	"math/rand"
	"slices"
	"testing"

	"nostro/api"
	"nostro/deal"
)

// mostIds is up to which Id scripts submit.
const mostIds = 60

// player makes calls by chance.
type player struct {
	random              *rand.Rand
	members, currencies int // of the book
	size                int // of amounts, in bits
	b                   *deal.Book
}

func newPlayer(t *testing.T, seed int64) *player {
	random := rand.New(rand.NewSource(seed))
	p := &player{random: random, members: 2 + random.Intn(15), currencies: 2 + random.Intn(7), size: []int{3, 20, 62}[seed%3]}
	if seed%2 == 0 {
		p.members, p.currencies = 2+random.Intn(3), 2+random.Intn(2)
	}
	p.b = empty(t, p.members, p.currencies)
	return p
}

// amount is one of up to as many bits as there are, mostly of fewer, and where it may be great now and then nearly the
// greatest one.
func (p *player) amount() int64 {
	if p.size > 60 && p.random.Intn(6) == 0 {
		return most - p.random.Int63n(1<<p.random.Intn(p.size))
	}
	return 1 + p.random.Int63n(1<<(1+p.random.Intn(p.size)))
}

// any is an amount of either sign, 0 or an edge among them.
func (p *player) any() int64 {
	switch p.random.Intn(12) {
	case 0:
		return 0
	case 1:
		if p.size > 60 {
			return []int64{least, -most, most, -1, 1}[p.random.Intn(5)]
		}
	case 2, 3, 4:
		return p.amount()
	}
	return -p.amount()
}

// change makes a call by which another instruction is matched, or one isn't any more.
func (p *player) change() {
	id := 1 + p.random.Intn(mostIds)
	switch p.random.Intn(12) {
	case 0:
		p.b.Settle(id)
	case 1, 2:
		p.b.Rescind(p.random.Intn(p.members), id)
	case 3:
		if p.random.Intn(20) == 0 {
			p.b.Remove(p.random.Intn(p.members))
		}
	default:
		p.submit(id)
	}
}

// submit submits an instruction, or matches the one of that Id.
func (p *player) submit(id int) {
	if d, known := p.b.Deal(id); known {
		p.b.Submit(mirror(d))
		return
	}
	at, cur := p.random.Perm(p.members), p.random.Perm(p.currencies)
	d := give(at[0], at[1], cur[0], p.amount(), cur[1], p.amount())
	d.Id = id
	p.b.Submit(d)
}

// net asks the nets of as many as the book has, or of a few more or fewer, and tells what Net answered.
func (p *player) net(t *testing.T) ([][]int64, api.Errno) {
	t.Helper()
	members, currencies := p.members, p.currencies
	if p.random.Intn(4) == 0 {
		members, currencies = members+p.random.Intn(4)-2, currencies+p.random.Intn(4)-2
	}
	matched := matchedOf(p.b, mostIds)
	got, err := nets(t, "script", p.b, members, currencies)
	if want, e := modelNet(matched, members, currencies); err != e || !alike(got, want) {
		t.Fatalf("Net of %v, %d, %d = %v, %d, not %v, %d", matched, members, currencies, got, err, want, e)
	}
	for cur := 0; err == api.OK && cur < currencies; cur++ {
		if sum := column(got, cur); sum.Sign() != 0 {
			t.Fatalf("of currency %d all nets %v are together %v", cur, got, sum)
		}
	}
	return got, err
}

// column is the exact sum of all nets of a currency.
func column(net [][]int64, cur int) *big.Int {
	sum := new(big.Int)
	for _, row := range net {
		sum.Add(sum, big.NewInt(row[cur]))
	}
	return sum
}

// deadlines rise, mostly; now and then two of them are alike, the first one is below 0, or there are none or too many.
func (p *player) deadlines() []int {
	var l []int
	at := p.random.Intn(4) - p.random.Intn(2)
	for range []int{1, 2, 3, 4, 16, p.random.Intn(20)}[p.random.Intn(6)] {
		l = append(l, at)
		at += 1 + p.random.Intn(5)
		if p.random.Intn(30) == 0 {
			at -= 5
		}
	}
	return l
}

// nets are by chance, of a few more members and currencies than there may be.
func (p *player) nets() [][]int64 {
	var l [][]int64
	for range p.random.Intn(18) {
		var row []int64
		for range p.random.Intn(9) {
			row = append(row, p.any())
		}
		if p.random.Intn(150) == 0 {
			row = make([]int64, 9)
		}
		l = append(l, row)
	}
	return l
}

// schedule asks for the dues of nets, and tells what Schedule answered.
func (p *player) schedule(t *testing.T, net [][]int64, deadlines []int) ([]Due, api.Errno) {
	t.Helper()
	want, e := modelSchedule(net, deadlines)
	schedules(t, "script", net, deadlines, want, e)
	if e == api.OK {
		follows(t, net, want, deadlines)
	}
	return want, e
}

// follows tells where dues aren't together what must be paid in, or where who paid all, or all up to now, is behind.
func follows(t *testing.T, net [][]int64, dues []Due, deadlines []int) {
	t.Helper()
	if len(dues) > 4096 {
		t.Fatalf("there are %d dues", len(dues))
	}
	last := deadlines[len(deadlines)-1]
	var all [][]int64
	for member, row := range net {
		must := make([]int64, len(row))
		for cur, amount := range row {
			must[cur] = -min(0, amount)
			if sum := modelDue(dues, account{member, cur}, last); sum.Cmp(big.NewInt(must[cur])) != 0 {
				t.Fatalf("member %d must pay in %d, and its dues are %v", member, must[cur], sum)
			}
		}
		all = append(all, must)
	}
	for _, now := range []int{0, deadlines[0], last, most} {
		behinds(t, "who paid all", dues, all, now, nil, api.OK)
	}
	behinds(t, "nobody must pay yet", dues, nil, deadlines[0]-1, nil, api.OK)
	for _, now := range deadlines {
		paidByNow(t, dues, now)
	}
}

// paidByNow tells if it isn't so that who is told to be behind, and pays just that, isn't behind any more.
func paidByNow(t *testing.T, dues []Due, now int) {
	t.Helper()
	behind, err := Behind(dues, nil, now)
	wants(t, "Behind", err, api.OK)
	paid := make([][]int64, api.MostMembers)
	for _, d := range behind {
		if paid[d.Member] == nil {
			paid[d.Member] = make([]int64, api.MostCurrencies)
		}
		paid[d.Member][d.Cur] = d.Amount
	}
	behinds(t, "who paid what was told", dues, paid, now, nil, api.OK)
	if len(behind) == 0 {
		return
	}
	one := behind[len(behind)-1]
	paid[one.Member][one.Cur]--
	one.Amount = 1
	behinds(t, "who paid all but one", dues, paid, now, []Due{one}, api.OK)
}

// dues are by chance, in no order, of which now and then one may not be.
func (p *player) dues() []Due {
	var l []Due
	for range p.random.Intn(40) {
		l = append(l, Due{Member: p.random.Intn(5), Cur: p.random.Intn(4), At: p.random.Intn(12) - 1, Amount: p.amount()})
		if p.random.Intn(200) == 0 {
			l[len(l)-1] = []Due{{-1, 0, 0, 1}, {0, -1, 0, 1}, {0, 0, 0, 0}, {0, 0, 0, -p.amount()}}[p.random.Intn(4)]
		}
	}
	if p.random.Intn(200) == 0 {
		l = append(l, make([]Due, 4097)...)
	}
	return l
}

// paid is what was paid of a few accounts, also of some of which nothing is due.
func (p *player) paid() [][]int64 {
	var l [][]int64
	for range p.random.Intn(7) {
		var row []int64
		for range p.random.Intn(6) {
			row = append(row, -p.any())
		}
		l = append(l, row)
	}
	return l
}

// behind asks who is behind, and tells how many, and what Behind answered.
func (p *player) behind(t *testing.T, due []Due, paid [][]int64) (int, api.Errno) {
	t.Helper()
	now := p.random.Intn(16) - 2
	want, e := modelBehind(due, paid, now)
	behinds(t, "script", due, paid, now, want, e)
	p.random.Shuffle(len(due), func(a, b int) { due[a], due[b] = due[b], due[a] })
	behinds(t, "shuffled", due, paid, now, want, e)
	return len(want), e
}

// seen tells where one of these errors was answered less than ten times.
func seen(t *testing.T, call string, count map[api.Errno]int, errs ...api.Errno) {
	t.Helper()
	for _, err := range errs {
		if count[err] < 10 {
			t.Errorf("only %d of %s answered %d", count[err], call, err)
		}
	}
}

// Of scripts of a book's calls each Net is the model's, and so are the dues of these nets, and who is behind with them.
func TestScriptsOfBooksAreTheModels(t *testing.T) {
	count, some := map[api.Errno]int{}, 0
	for seed := range int64(150) {
		p := newPlayer(t, seed)
		for range 200 {
			p.change()
			if p.random.Intn(10) > 0 {
				continue
			}
			net, err := p.net(t)
			count[err]++
			if err != api.OK {
				continue
			}
			dues, err := p.schedule(t, net, p.deadlines())
			if behind, _ := p.behind(t, slices.Clone(dues), p.paid()); err == api.OK && behind > 0 {
				some++
			}
		}
	}
	seen(t, "Net", count, api.OK, api.ErrArg, api.ErrOver)
	if some < 100 {
		t.Errorf("only %d times somebody was behind", some)
	}
}

// Of any nets, dues and payments Schedule and Behind are the model's.
func TestAnyNetsAndDuesAreTheModels(t *testing.T) {
	schedule, behind := map[api.Errno]int{}, map[api.Errno]int{}
	for seed := range int64(600) {
		p := newPlayer(t, seed)
		for range 5 {
			_, err := p.schedule(t, p.nets(), p.deadlines())
			schedule[err]++
			_, err = p.behind(t, p.dues(), p.paid())
			behind[err]++
		}
	}
	seen(t, "Schedule", schedule, api.OK, api.ErrArg, api.ErrMany, api.ErrOver)
	seen(t, "Behind", behind, api.OK, api.ErrArg, api.ErrMany, api.ErrOver)
}
