package deal

import (
	"encoding/binary"
	"math"
	"slices"
	"testing"

	"nostro/api"
)

const (
	most  = math.MaxInt64
	least = math.MinInt64
)

// model is a book as the chapter tells it: lists of Ids, and what is known of each.
type model struct {
	members, currencies int
	came, matches       []int // in the order in which they came, and in that in which they were matched
	first               map[int]api.Deal
	states              map[int]int
	asked               map[int][]int // the members that asked, as it was matched
}

func newModel(members, currencies int) *model {
	return &model{members: members, currencies: currencies, first: map[int]api.Deal{}, states: map[int]int{}, asked: map[int][]int{}}
}

func (m *model) mayBe(d api.Deal) bool {
	isMember := func(n int) bool { return 0 <= n && n < m.members }
	isCurrency := func(n int) bool { return 0 <= n && n < m.currencies }
	return 0 < d.Id && d.Id < 1<<31 && isMember(d.A) && isMember(d.B) && d.A != d.B &&
		isCurrency(d.SellCur) && isCurrency(d.BuyCur) && d.SellCur != d.BuyCur && d.Sell > 0 && d.Buy > 0
}

// isMirror asks number by number.
func isMirror(d, e api.Deal) bool {
	return d.A == e.B && d.B == e.A && d.SellCur == e.BuyCur && d.BuyCur == e.SellCur && d.Sell == e.Buy && d.Buy == e.Sell
}

func (m *model) submit(d api.Deal) (bool, api.Errno) {
	if !m.mayBe(d) {
		return false, api.ErrArg
	}
	switch {
	case m.states[d.Id] == 0 && len(m.came) == 200:
		return false, api.ErrMany
	case m.states[d.Id] == 0:
		m.came = append(m.came, d.Id)
		m.first[d.Id], m.states[d.Id] = d, 1
		return false, api.OK
	case m.states[d.Id] != 1 || m.first[d.Id].A == d.A:
		return false, api.ErrTwice
	case !isMirror(d, m.first[d.Id]):
		return false, api.ErrUnfit
	}
	m.states[d.Id] = 2
	m.matches = append(m.matches, d.Id)
	return true, api.OK
}

func (m *model) rescind(member, id int) (int, api.Errno) {
	state, d := m.states[id], m.first[id]
	switch {
	case state == 0, member != d.A && (state == 1 || member != d.B):
		return 0, api.ErrName
	case state == 3 || state == 4:
		return 0, api.ErrPhase
	case slices.Contains(m.asked[id], member):
		return 0, api.ErrTwice
	case state == 1:
		m.states[id] = 4
		return 4, api.OK
	}
	m.asked[id] = append(m.asked[id], member)
	if len(m.asked[id]) == 2 {
		m.states[id] = 4
	}
	return m.states[id], api.OK
}

func (m *model) settle(id int) api.Errno {
	switch m.states[id] {
	case 0:
		return api.ErrName
	case 2:
		m.states[id] = 3
		return api.OK
	}
	return api.ErrPhase
}

func (m *model) remove(member int) []int {
	var ids []int
	for _, id := range m.came {
		if d := m.first[id]; (m.states[id] == 1 || m.states[id] == 2) && (d.A == member || d.B == member) {
			m.states[id] = 4
			ids = append(ids, id)
		}
	}
	return ids
}

func (m *model) all(state int) []int {
	from := m.came
	if state == 2 {
		from = m.matches
	}
	var ids []int
	for _, id := range from {
		if m.states[id] == state {
			ids = append(ids, id)
		}
	}
	return ids
}

func (m *model) text() string {
	text := binary.BigEndian.AppendUint16(nil, uint16(len(m.came)))
	for _, id := range m.came {
		asked := 0
		for _, member := range m.asked[id] {
			if member == m.first[id].A {
				asked |= 1
			} else {
				asked |= 2
			}
		}
		text = append(text, laid(m.first[id], m.states[id], asked, slices.Index(m.matches, id)+1)...)
	}
	return string(text)
}

// laid are the bytes of one that is known.
func laid(d api.Deal, state, asked, nth int) string {
	text := binary.BigEndian.AppendUint32(nil, uint32(d.Id))
	text = append(text, byte(d.A), byte(d.B), byte(d.SellCur), byte(d.BuyCur))
	text = binary.BigEndian.AppendUint64(text, uint64(d.Sell))
	text = binary.BigEndian.AppendUint64(text, uint64(d.Buy))
	text = append(text, byte(state), byte(asked))
	return string(binary.BigEndian.AppendUint16(text, uint16(nth)))
}

// same tells whether the book knows what the model knows, and nothing else.
func (m *model) same(t *testing.T, b *Book) {
	t.Helper()
	if got, want := b.Text(), m.text(); got != want {
		t.Fatalf("Text() = %x, not %x", got, want)
	}
	for state := -1; state <= 6; state++ {
		want := m.all(state)
		if state < 1 || state > 4 {
			want = nil
		}
		if got := b.All(state); !slices.Equal(got, want) {
			t.Fatalf("All(%d) = %v, not %v", state, got, want)
		}
	}
	for _, id := range append([]int{0, -1, 1, 6, 1 << 31, 1 << 32, least, most}, m.came...) {
		if got := b.State(id); got != m.states[id] {
			t.Fatalf("State(%d) = %d, not %d", id, got, m.states[id])
		}
		if got, is := b.Deal(id); got != m.first[id] || is != (m.states[id] != 0) {
			t.Fatalf("Deal(%d) = %v, %v, not %v", id, got, is, m.first[id])
		}
	}
}

// made is a book that may be.
func made(t *testing.T, members, currencies int) *Book {
	t.Helper()
	b, err := New(members, currencies)
	if err != api.OK || b == nil {
		t.Fatalf("New(%d, %d): %d", members, currencies, err)
	}
	return b
}

// one is an instruction of member 0 to member 1, of currencies 0 and 1.
func one(id int) api.Deal {
	return api.Deal{Id: id, A: 0, B: 1, SellCur: 0, BuyCur: 1, Sell: 100, Buy: 80}
}

// turned is an instruction as its B tells it.
func turned(d api.Deal) api.Deal {
	return api.Deal{Id: d.Id, A: d.B, B: d.A, SellCur: d.BuyCur, BuyCur: d.SellCur, Sell: d.Buy, Buy: d.Sell}
}

// submits tells of a Submit that answered otherwise than it should.
func submits(t *testing.T, b *Book, d api.Deal, match bool, want api.Errno) {
	t.Helper()
	if got, err := b.Submit(d); got != match || err != want {
		t.Errorf("Submit(%v) = %v, %d, not %v, %d", d, got, err, match, want)
	}
}

// rescinds tells of a Rescind that answered otherwise than it should.
func rescinds(t *testing.T, b *Book, member, id, state int, want api.Errno) {
	t.Helper()
	if got, err := b.Rescind(member, id); got != state || err != want {
		t.Errorf("Rescind(%d, %d) = %d, %d, not %d, %d", member, id, got, err, state, want)
	}
}

// settles tells of a Settle that answered otherwise than it should.
func settles(t *testing.T, b *Book, id int, want api.Errno) {
	t.Helper()
	if err := b.Settle(id); err != want {
		t.Errorf("Settle(%d) = %d, not %d", id, err, want)
	}
}

// lists tells of Ids that are others than they should be, or in another order.
func lists(t *testing.T, what string, got []int, want ...int) {
	t.Helper()
	if !slices.Equal(got, want) {
		t.Errorf("%s: %v, not %v", what, got, want)
	}
}
