package deal

import (
	"slices"

	"nostro/api"
)

const (
	headSize  = 2  // how many are known
	entrySize = 28 // all sizes together
)

// sizes are by how many bytes an entry's numbers are laid.
var sizes = [10]int{4, 1, 1, 1, 1, 8, 8, 1, 1, 2}

// numbers are an entry's, in the order of its bytes.
type numbers [10]int64

// Text tells a book as bytes: how many Ids are known, and what of each, in the order in which they came.
func (b *Book) Text() string {
	text := lay(make([]byte, 0, textSize(len(b.known))), int64(len(b.known)), headSize)
	for _, e := range b.known {
		for place, n := range numbersOf(e) {
			text = lay(text, n, sizes[place])
		}
	}
	return string(text)
}

// Read tells the book whose Text this is, of so many members and currencies, or ErrForm if it is none's.
func Read(text string, members, currencies int) (*Book, api.Errno) {
	b, err := New(members, currencies)
	if err != api.OK || len(text) < headSize {
		return nil, api.ErrForm
	}
	count, rest := take(text, headSize)
	if count > api.MostDeals || len(text) != textSize(int(count)) {
		return nil, api.ErrForm
	}
	for rest != "" {
		var e entry
		e, rest = takeEntry(rest)
		if !b.fits(e) {
			return nil, api.ErrForm
		}
		b.add(e)
	}
	if !b.countMatched() {
		return nil, api.ErrForm
	}
	return b, api.OK
}

// textSize is how many bytes a Text has if so many are known.
func textSize(known int) int {
	return headSize + known*entrySize
}

// fits tells whether an entry may be known behind those that are.
func (b *Book) fits(e entry) bool {
	return mayBe(e.deal, b.members, b.currencies) && b.find(e.deal.Id) == nil && e.mayStand()
}

// countMatched counts those that ever were matched, and tells whether one was the first, one the second, and so on.
func (b *Book) countMatched() bool {
	var nths []int
	for _, e := range b.known {
		if e.nth > 0 {
			nths = append(nths, e.nth)
		}
	}
	slices.Sort(nths)
	for at, nth := range nths {
		if nth != at+1 {
			return false
		}
	}
	b.matched = len(nths)
	return true
}

func numbersOf(e entry) numbers {
	d := e.deal
	return numbers{
		int64(d.Id), int64(d.A), int64(d.B), int64(d.SellCur), int64(d.BuyCur), d.Sell, d.Buy,
		int64(e.state), int64(e.asked), int64(e.nth),
	}
}

// entryOf is the entry that has these numbers.
func entryOf(n numbers) entry {
	return entry{
		deal: api.Deal{
			Id: int(n[0]), A: int(n[1]), B: int(n[2]), SellCur: int(n[3]), BuyCur: int(n[4]), Sell: n[5], Buy: n[6],
		},
		state: int(n[7]),
		asked: int(n[8]),
		nth:   int(n[9]),
	}
}

// takeEntry takes an entry from the front of s, which has as many bytes, and tells what is behind it.
func takeEntry(s string) (entry, string) {
	var n numbers
	for place, size := range sizes {
		n[place], s = take(s, size)
	}
	return entryOf(n), s
}

// lay lays a number by so many bytes behind b, the highest first.
func lay(b []byte, n int64, size int) []byte {
	for at := size - 1; at >= 0; at-- {
		b = append(b, byte(n>>(8*at)))
	}
	return b
}

// take takes a number of so many bytes from the front of s, which has as many, and tells what is behind them.
func take(s string, size int) (int64, string) {
	var n int64
	for at := range size {
		n = n<<8 | int64(s[at])
	}
	return n, s[size:]
}
