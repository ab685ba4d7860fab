package deal

import (
	"encoding/binary"
	"math/rand"
	"strings"
	"testing"

	"nostro/api"
)

// modelOf is the model of which this is the text, none if there is none.
func modelOf(text string, members, currencies int) *model {
	m := newModel(members, currencies)
	if members < 1 || members > 16 || currencies < 1 || currencies > 8 || len(text) < 2 {
		return nil
	}
	count := int(binary.BigEndian.Uint16([]byte(text)))
	if count > 200 || len(text) != 2+28*count {
		return nil
	}
	byNumber := map[int]int{}
	for at := 2; at < len(text); at += 28 {
		b := []byte(text[at : at+28])
		d := api.Deal{Id: int(binary.BigEndian.Uint32(b)), A: int(b[4]), B: int(b[5]), SellCur: int(b[6]), BuyCur: int(b[7])}
		d.Sell, d.Buy = int64(binary.BigEndian.Uint64(b[8:])), int64(binary.BigEndian.Uint64(b[16:]))
		state, asked, nth := int(b[24]), int(b[25]), int(binary.BigEndian.Uint16(b[26:]))
		if !m.mayBe(d) || m.states[d.Id] != 0 || state < 1 || state > 4 || asked > 3 {
			return nil
		}
		if state == 1 && nth != 0 || (state == 2 || state == 3) && nth == 0 || nth == 0 && asked != 0 || asked == 3 && state != 4 {
			return nil
		}
		m.came, m.first[d.Id], m.states[d.Id] = append(m.came, d.Id), d, state
		if asked&1 != 0 {
			m.asked[d.Id] = append(m.asked[d.Id], d.A)
		}
		if asked&2 != 0 {
			m.asked[d.Id] = append(m.asked[d.Id], d.B)
		}
		if nth != 0 && byNumber[nth] != 0 {
			return nil
		}
		if nth != 0 {
			byNumber[nth] = d.Id
		}
	}
	for nth := 1; nth <= len(byNumber); nth++ {
		if byNumber[nth] == 0 {
			return nil
		}
		m.matches = append(m.matches, byNumber[nth])
	}
	return m
}

// reads tells of a Read that answered otherwise than it should, and whether there is such a book.
func reads(t *testing.T, what, text string, members, currencies int) bool {
	t.Helper()
	m := modelOf(text, members, currencies)
	b, err := Read(text, members, currencies)
	if m == nil {
		if b != nil || err != api.ErrForm {
			t.Fatalf("%s: %x of %d, %d: %v, %d", what, text, members, currencies, b, err)
		}
		return false
	}
	if b == nil || err != api.OK {
		t.Fatalf("%s: %x of %d, %d: %v, %d", what, text, members, currencies, b, err)
	}
	m.same(t, b)
	return true
}

// refused tells of a text that is a book's, though it shouldn't be.
func refused(t *testing.T, what, text string) {
	t.Helper()
	if b, err := Read(text, 3, 3); b != nil || err != api.ErrForm {
		t.Errorf("%s: %x: %v, %d", what, text, b, err)
	}
}

// head is how many a text tells to be known.
func head(count int) string {
	return string([]byte{byte(count >> 8), byte(count)})
}

func TestTextIsInTheOrderOfTheChapter(t *testing.T) {
	b := made(t, 3, 4)
	if got := b.Text(); got != "\x00\x00" {
		t.Errorf("%x", got)
	}
	great := api.Deal{Id: 0x01020304, A: 2, B: 1, SellCur: 3, BuyCur: 2, Sell: 0x0102030405060708, Buy: 0x1112131415161718}
	submits(t, b, great, false, api.OK)
	submits(t, b, one(5), false, api.OK)
	submits(t, b, turned(great), true, api.OK)
	rescinds(t, b, 1, 0x01020304, Matched, api.OK)
	want := "\x00\x02" +
		"\x01\x02\x03\x04" + "\x02\x01\x03\x02" + "\x01\x02\x03\x04\x05\x06\x07\x08" + "\x11\x12\x13\x14\x15\x16\x17\x18" + "\x02\x02" + "\x00\x01" +
		"\x00\x00\x00\x05" + "\x00\x01\x00\x01" + "\x00\x00\x00\x00\x00\x00\x00\x64" + "\x00\x00\x00\x00\x00\x00\x00\x50" + "\x01\x00" + "\x00\x00"
	if got := b.Text(); got != want {
		t.Errorf("%x, not %x", got, want)
	}
	if !reads(t, "the same", want, 3, 4) {
		t.Errorf("it isn't read")
	}
}

// reached are all texts that calls can bring of one Id, of two members and currencies.
func reached(t *testing.T) map[string]bool {
	texts := map[string]bool{}
	work := []string{"\x00\x00"}
	for len(work) > 0 {
		text := work[0]
		work = work[1:]
		if texts[text] {
			continue
		}
		texts[text] = true
		for _, call := range []func(b *Book){
			func(b *Book) { b.Submit(one(7)) }, func(b *Book) { b.Submit(turned(one(7))) }, func(b *Book) { b.Settle(7) },
			func(b *Book) { b.Rescind(0, 7) }, func(b *Book) { b.Rescind(1, 7) }, func(b *Book) { b.Remove(0) }, func(b *Book) { b.Remove(1) },
		} {
			b, err := Read(text, 2, 2)
			if err != api.OK {
				t.Fatalf("%x was reached, but isn't read", text)
			}
			call(b)
			work = append(work, b.Text())
		}
	}
	return texts
}

// Of one Id just those texts are read that calls can bring.
func TestReadOfEachStateWhoAskedAndNumber(t *testing.T) {
	texts := reached(t)
	read := 1 // the one that knows none
	for _, d := range []api.Deal{one(7), turned(one(7))} {
		for state := range 256 {
			for _, asked := range []int{0, 1, 2, 3, 4, 5, 6, 7, 8, 16, 64, 127, 128, 129, 131, 255} {
				for _, nth := range []int{0, 1, 2, 3, 200, 255, 256, 257, 1 << 15, 1<<16 - 1} {
					text := head(1) + laid(d, state, asked, nth)
					if is := reads(t, "one", text, 2, 2); is != texts[text] {
						t.Errorf("%d, %d, %d: read %v, but reached %v", state, asked, nth, is, texts[text])
					} else if is {
						read++
					}
				}
			}
		}
	}
	if read != len(texts) || read != 1+2*12 {
		t.Errorf("%d are read of %d", read, len(texts))
	}
}

// Those that were matched are told by 1, 2, 3 and so on, in any order, each once.
func TestReadOfAllNumbers(t *testing.T) {
	read := 0
	for a := range 5 {
		for b := range 5 {
			for c := range 5 {
				for _, states := range [][3]int{{4, 4, 4}, {2, 4, 3}, {1, 2, 3}, {3, 3, 2}} {
					text := head(3) + laid(one(9), states[0], 0, a) + laid(one(3), states[1], 0, b) + laid(one(6), states[2], 0, c)
					if reads(t, "three", text, 2, 2) {
						read++
					}
				}
			}
		}
	}
	// {4,4,4}: 6 of three, 6 of two, 3 of one, none; {2,4,3}: 6, and 2 of both others; {1,2,3}: 2; {3,3,2}: 6.
	if read != 16+8+2+6 {
		t.Errorf("%d are read", read)
	}
}

func TestReadOfAllSizes(t *testing.T) {
	text := head(2) + laid(api.Deal{Id: 1, A: 3, B: 0, SellCur: 2, BuyCur: 0, Sell: 1, Buy: 1}, Alone, 0, 0) +
		laid(api.Deal{Id: 2, A: 0, B: 1, SellCur: 0, BuyCur: 1, Sell: 1, Buy: 1}, Settled, 0, 1)
	for members := -2; members <= 18; members++ {
		for currencies := -2; currencies <= 10; currencies++ {
			reads(t, "none", head(0), members, currencies)
			if is, want := reads(t, "two", text, members, currencies), members >= 4 && members <= 16 && currencies >= 3 && currencies <= 8; is != want {
				t.Errorf("%d, %d: %v", members, currencies, is)
			}
		}
	}
	for _, c := range [][2]int{{least, 3}, {4, least}, {most, 3}, {4, most}, {1<<32 + 4, 3}, {4, 1<<32 + 3}, {256, 3}, {4, 256}} {
		reads(t, "none", head(0), c[0], c[1])
		reads(t, "two", text, c[0], c[1])
	}
}

func TestReadOfAllLengths(t *testing.T) {
	for _, known := range []int{0, 1, 2, 200} {
		var all strings.Builder
		for id := 1; id <= known+2; id++ {
			all.WriteString(laid(one(id), Alone, 0, 0))
		}
		for size := range 2 + 28*(known+1) {
			if is := reads(t, "alone", (head(known) + all.String())[:size], 2, 2); is != (size == 2+28*known) {
				t.Errorf("%d known, %d bytes: %v", known, size, is)
			}
		}
	}
	refused(t, "nothing", "")
	refused(t, "a byte", "\x00")
}

func TestReadOfTooMany(t *testing.T) {
	var all strings.Builder
	for id := 1; id <= 201; id++ {
		all.WriteString(laid(one(id), Settled, 0, 202-id))
	}
	refused(t, "201", head(201)+all.String())
	last := strings.Replace(head(200)+all.String()[28:], laid(one(201), Settled, 0, 1), laid(one(201), Matched, 2, 1), 1)
	if !reads(t, "200", last, 2, 2) {
		t.Errorf("200 aren't read")
	}
	b, err := Read(last, 2, 2)
	if err != api.OK {
		t.Fatalf("%d", err)
	}
	submits(t, b, one(1), false, api.ErrMany)
	rescinds(t, b, 0, 201, Gone, api.OK)
	for _, count := range []int{256, 1000, 1 << 15, 1<<16 - 1} {
		refused(t, "many", head(count))
		refused(t, "many", head(count)+strings.Repeat(laid(one(1), Alone, 0, 0), count))
	}
}

func TestReadOfAnIdTwice(t *testing.T) {
	for _, states := range [][2]int{{Alone, Alone}, {Alone, Gone}, {Gone, Gone}} {
		refused(t, "twice", head(2)+laid(one(7), states[0], 0, 0)+laid(one(7), states[1], 0, 0))
		refused(t, "twice, the other way round", head(2)+laid(one(7), states[0], 0, 0)+laid(turned(one(7)), states[1], 0, 0))
		refused(t, "twice, one between", head(3)+laid(one(7), states[0], 0, 0)+laid(one(8), Alone, 0, 0)+laid(one(7), states[1], 0, 0))
	}
	refused(t, "twice, matched", head(2)+laid(one(7), Matched, 0, 1)+laid(one(7), Matched, 0, 2))
}

// Whatever number of it may not be, the instruction is none that a book knows, in each state.
func TestReadOfInstructionsThatMayNotBe(t *testing.T) {
	base := api.Deal{Id: 7, A: 1, B: 2, SellCur: 0, BuyCur: 1, Sell: 3, Buy: 4}
	for _, state := range []int{Alone, Gone} {
		for _, d := range edges(base, 3, 2) {
			reads(t, "at the edges", head(1)+laid(d, state, 0, 0), 3, 2)
		}
	}
	for _, state := range []int{Matched, Settled, Gone} {
		for _, d := range edges(base, 3, 2) {
			reads(t, "at the edges", head(2)+laid(one(5), Settled, 1, 1)+laid(d, state, 2, 2), 3, 2)
		}
	}
	great := api.Deal{Id: 1<<31 - 1, A: 15, B: 14, SellCur: 7, BuyCur: 6, Sell: most, Buy: most}
	if !reads(t, "the greatest", head(1)+laid(great, Alone, 0, 0), 16, 8) {
		t.Errorf("the greatest isn't read")
	}
}

// Each byte, turned to each other one, lets it be another book's text, or none's.
func TestReadOfEachByteTurned(t *testing.T) {
	b := made(t, 3, 3)
	for id := 1; id <= 5; id++ {
		submits(t, b, one(id), false, api.OK)
	}
	for _, id := range []int{4, 2, 3} {
		submits(t, b, turned(one(id)), true, api.OK)
	}
	settles(t, b, 4, api.OK)
	rescinds(t, b, 0, 2, Matched, api.OK)
	rescinds(t, b, 1, 2, Gone, api.OK)
	rescinds(t, b, 1, 3, Matched, api.OK)
	rescinds(t, b, 0, 5, Gone, api.OK)
	text := b.Text()
	for at := range text {
		read := 0
		for c := range 256 {
			if reads(t, "turned", text[:at]+string([]byte{byte(c)})+text[at+1:], 3, 3) {
				read++
			}
		}
		// All but the lower bytes of an Id, and amounts, have few numbers that may be.
		place := (at - 2) % 28
		if read == 0 || read > 8 && (at < 2 || place >= 4 && place < 8 || place >= 24) {
			t.Errorf("of byte %d %d are read", at, read)
		}
	}
}

// Of texts that are laid by chance, most often nearly as they should be, Read answers as the model does.
func TestReadIsTheModel(t *testing.T) {
	random := rand.New(rand.NewSource(11))
	read, none := 0, 0
	for range 60000 {
		known := random.Intn(5)
		order := random.Perm(known)
		text, nth := head(known), 0
		numbers := make([]int, known)
		for _, at := range order {
			if random.Intn(3) > 0 {
				nth++
				numbers[at] = nth
			}
		}
		for at := range known {
			d := api.Deal{Id: 1 + at, A: random.Intn(3), SellCur: random.Intn(2), Sell: 1 + random.Int63(), Buy: 1 + random.Int63n(9)}
			d.B, d.BuyCur = (d.A+1+random.Intn(2))%3, 1-d.SellCur
			state, asked := []int{Alone, Gone}[random.Intn(2)], 0
			if numbers[at] > 0 {
				state, asked = Matched+random.Intn(3), random.Intn(3)
			}
			text += laid(d, state, asked, numbers[at])
		}
		if random.Intn(2) == 0 {
			b := []byte(text)
			b[random.Intn(len(b))] = byte(random.Intn(6))
			text = string(b)
		}
		if reads(t, "by chance", text, 3, 2) {
			read++
		} else {
			none++
		}
	}
	if read < 10000 || none < 10000 {
		t.Errorf("%d are read, and %d not", read, none)
	}
}
