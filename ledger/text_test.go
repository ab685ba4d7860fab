package ledger

import (
	"encoding/binary"
	"math/big"
	"math/rand"
	"strings"
	"testing"

	"nostro/api"
)

// laid are the bytes of a text: its two first ones, and amounts behind them.
func laid(members, currencies byte, amounts ...int64) string {
	text := []byte{members, currencies}
	for _, a := range amounts {
		text = binary.BigEndian.AppendUint64(text, uint64(a))
	}
	return string(text)
}

// modelOf is the model of a text whose size is right.
func modelOf(text string) *model {
	m := newModel(int(text[0]), int(text[1]))
	rest := []byte(text[2:])
	for _, l := range append([][]*big.Int{m.nostros}, m.balances...) {
		for place := range l {
			l[place] = big.NewInt(int64(binary.BigEndian.Uint64(rest)))
			rest = rest[8:]
		}
	}
	return m
}

func TestTextOfAllSizes(t *testing.T) {
	for members := 1; members <= api.MostMembers; members++ {
		for currencies := 1; currencies <= api.MostCurrencies; currencies++ {
			l, m := made(t, members, currencies), newModel(members, currencies)
			for member := range members {
				for cur := range currencies {
					amount := int64(member+1)<<40 + int64(cur+1)<<8 + 0xFF
					wants(t, "In", l.In(member, cur, amount), api.OK)
					wants(t, "In", m.in(member, cur, amount), api.OK)
				}
			}
			m.same(t, l)
			again, err := Read(l.Text())
			if err != api.OK {
				t.Fatalf("Read of %d, %d: %d", members, currencies, err)
			}
			m.same(t, again)
		}
	}
}

func TestTextIsInTheOrderOfTheChapter(t *testing.T) {
	l := made(t, 2, 3)
	for place, amount := range []int64{0x0102030405060708, 2, 3, 40, 50, 60} {
		wants(t, "In", l.In(place/3, place%3, amount), api.OK)
	}
	wants(t, "Post", l.Post([]api.Posting{of(0, 1, -3), of(1, 1, 3)}), api.OK)
	want := laid(2, 3, 0x0102030405060708+40, 52, 63, 0x0102030405060708, -1, 3, 40, 53, 60)
	if got := l.Text(); got != want {
		t.Errorf("%x, not %x", got, want)
	}
}

func TestReadOfWhatMayBe(t *testing.T) {
	for name, text := range map[string]string{
		"the least ledger":                laid(1, 1, 0, 0),
		"the greatest ledger":             laid(16, 8, make([]int64, 17*8)...),
		"both ends":                       laid(2, 2, 0, -1, most, least, -most, most),
		"a nostro below 0":                laid(1, 1, -7, -7),
		"the least nostro":                laid(1, 1, least, least),
		"the least nostro of two":         laid(2, 1, least, least, 0),
		"the greatest nostro":             laid(2, 1, most, most-1, 1),
		"sums that are none":              laid(3, 1, most, most, most, -most),
		"sums that are none, from below":  laid(4, 1, -2, least, least, most, most),
		"sums that are none, and 0":       laid(3, 1, 0, 1<<62, 1<<62, least),
		"a currency of each of many ends": laid(2, 4, most, least, 0, -1, most, least, most, least, 0, 0, -most, most),
	} {
		l, err := Read(text)
		if err != api.OK || l == nil {
			t.Errorf("%s: %v, %d", name, l, err)
			continue
		}
		modelOf(text).same(t, l)
	}
}

func TestReadOfNoForm(t *testing.T) {
	long := strings.Repeat("\x00", 8*400)
	for members := range 256 {
		for currencies := range 256 {
			if members >= 1 && members <= 16 && currencies >= 1 && currencies <= 8 {
				continue
			}
			head := string([]byte{byte(members), byte(currencies)})
			for _, text := range []string{head, head + long[:16], head + long[:min(len(long), 8*(1+members)*currencies)]} {
				if l, err := Read(text); l != nil || err != api.ErrForm {
					t.Fatalf("%d, %d, %d bytes: %v, %d", members, currencies, len(text), l, err)
				}
			}
		}
	}
	for _, text := range []string{"", "\x00", "\x01", "\x10", "\xff"} {
		if l, err := Read(text); l != nil || err != api.ErrForm {
			t.Errorf("%x: %v, %d", text, l, err)
		}
	}
}

func TestReadOfAllLengths(t *testing.T) {
	for members := 1; members <= api.MostMembers; members++ {
		for currencies := 1; currencies <= api.MostCurrencies; currencies++ {
			// The sums don't hold, where there are nostros: ErrForm is named first.
			size := 2 + 8*currencies*(1+members)
			text := laid(byte(members), byte(currencies), 5) + strings.Repeat("\x00", 2*size)
			for _, count := range []int{2, 3, 10, size - 8*currencies, size - 8, size - 1, size + 1, size + 7, size + 8, size + 8*currencies, len(text)} {
				if l, err := Read(text[:count]); count != size && (l != nil || err != api.ErrForm) {
					t.Errorf("%d, %d, %d bytes: %v, %d", members, currencies, count, l, err)
				}
			}
			if l, err := Read(text[:size]); l != nil || err != api.ErrSum {
				t.Errorf("%d, %d, %d bytes: %v, %d", members, currencies, size, l, err)
			}
		}
	}
}

func TestReadOfWrongSums(t *testing.T) {
	for name, text := range map[string]string{
		"a nostro alone":          laid(1, 1, 1, 0),
		"a balance alone":         laid(1, 1, 0, 1),
		"another sign":            laid(1, 1, -7, 7),
		"one more":                laid(2, 1, 10, 5, 6),
		"one less":                laid(2, 1, 10, 5, 4),
		"the first currency":      laid(1, 2, 1, 5, 2, 5),
		"the last currency":       laid(1, 2, 5, 1, 5, 2),
		"even over currencies":    laid(1, 2, 5, 6, 6, 5),
		"2^64":                    laid(3, 1, 0, most, most, 2),
		"-2^64":                   laid(2, 1, 0, least, least),
		"2^63, the least nostro":  laid(2, 1, least, most, 1),
		"2^63, the most nostro":   laid(2, 1, most, most, 1),
		"-2^63 - 1, the greatest": laid(2, 1, most, least, -1),
		"-2^63 - 1, the least":    laid(2, 1, least, least, -1),
	} {
		if l, err := Read(text); l != nil || err != api.ErrSum {
			t.Errorf("%s: %v, %d", name, l, err)
		}
	}
}

// Whichever bit is turned behind the head, a sum doesn't hold any more.
func TestReadOfATurnedBit(t *testing.T) {
	text := laid(2, 2, 7, -9, most, -1000, -most+7, 991)
	if _, err := Read(text); err != api.OK {
		t.Fatalf("as it was: %d", err)
	}
	for place := range text {
		for bit := range 8 {
			turned := []byte(text)
			turned[place] ^= 1 << bit
			want := api.ErrSum
			if place < 2 {
				want = api.ErrForm
			}
			if l, err := Read(string(turned)); l != nil || err != want {
				t.Errorf("byte %d, bit %d: %v, %d", place, bit, l, err)
			}
		}
	}
}

// What was read goes on as what was told.
func TestThatALedgerGoesOnBehindRead(t *testing.T) {
	text := laid(2, 2, -7, 20, -10, 12, 3, 8)
	l, err := Read(text)
	wants(t, "Read", err, api.OK)
	wants(t, "out of a nostro below 0", l.Out(1, 0, 1), api.ErrRisk)
	wants(t, "given of a nostro below 0", l.Swap(1, 1, 0, 1, 1), api.ErrRisk)
	wants(t, "in to a nostro below 0", l.In(1, 0, 5), api.OK)
	holds(t, "paid in", l, [2]int64{-2, 20}, [2]int64{-10, 12}, [2]int64{8, 8})
	wants(t, "a batch", l.Post([]api.Posting{of(0, 0, 10), of(1, 0, -10)}), api.OK)
	wants(t, "got to a nostro below 0", l.Swap(0, 0, 1, 9, 20), api.OK)
	holds(t, "swapped", l, [2]int64{7, 0}, [2]int64{9, -8}, [2]int64{-2, 8})
	if again, _ := Read(text); again.Text() != text {
		t.Errorf("%x, not %x", again.Text(), text)
	}
}

// Of texts of few amounts, chosen so that sums often hold, Read answers as the model does.
func TestReadIsTheModel(t *testing.T) {
	random := rand.New(rand.NewSource(8))
	amounts := []int64{0, 1, -1, 2, most, least, most - 1, least + 1, 1 << 62, -1 << 62}
	read := 0
	for range 200000 {
		members, currencies := 1+random.Intn(4), 1+random.Intn(2)
		list := make([]int64, (1+members)*currencies)
		for place := range list {
			list[place] = amounts[random.Intn(len(amounts))]
		}
		text := laid(byte(members), byte(currencies), list...)
		m := modelOf(text)
		l, err := Read(text)
		if !m.balanced() {
			if l != nil || err != api.ErrSum {
				t.Fatalf("%x: %v, %d", text, l, err)
			}
			continue
		}
		if err != api.OK {
			t.Fatalf("%x: %d", text, err)
		}
		m.same(t, l)
		read++
	}
	if read < 1000 {
		t.Errorf("only %d may be read", read)
	}
}
