package deal

import (
	"testing"

	"nostro/api"
)

// stands is a book of three members that knows 7, of members 0 and 1, in each way in which it may stand there.
func stands(t *testing.T) map[string]*Book {
	t.Helper()
	books := map[string]*Book{}
	begin := func(name string, d api.Deal, matched bool) *Book {
		b := made(t, 3, 2)
		submits(t, b, d, false, api.OK)
		if matched {
			submits(t, b, turned(d), true, api.OK)
		}
		books[name] = b
		return b
	}
	begin("alone", one(7), false)
	begin("matched", one(7), true)
	rescinds(t, begin("asked by A", one(7), true), 0, 7, Matched, api.OK)
	rescinds(t, begin("asked by B", one(7), true), 1, 7, Matched, api.OK)
	settles(t, begin("settled", one(7), true), 7, api.OK)
	b := begin("settled, asked by A", one(7), true)
	rescinds(t, b, 0, 7, Matched, api.OK)
	settles(t, b, 7, api.OK)
	rescinds(t, begin("gone alone", one(7), false), 0, 7, Gone, api.OK)
	b = begin("gone by both", one(7), true)
	rescinds(t, b, 1, 7, Matched, api.OK)
	rescinds(t, b, 0, 7, Gone, api.OK)
	lists(t, "removed", begin("removed alone", one(7), false).Remove(1), 7)
	lists(t, "removed", begin("removed matched", one(7), true).Remove(0), 7)
	return books
}

func TestRescindByEachMemberInEachState(t *testing.T) {
	type answer struct {
		state int
		err   api.Errno
	}
	none, over, twice, waits, gone := answer{0, api.ErrName}, answer{0, api.ErrPhase}, answer{0, api.ErrTwice}, answer{Matched, api.OK}, answer{Gone, api.OK}
	for name, want := range map[string][2]answer{
		"alone":               {gone, none},
		"matched":             {waits, waits},
		"asked by A":          {twice, gone},
		"asked by B":          {gone, twice},
		"settled":             {over, over},
		"settled, asked by A": {over, over},
		"gone alone":          {over, over},
		"gone by both":        {over, over},
		"removed alone":       {over, over},
		"removed matched":     {over, over},
	} {
		for member := range 2 {
			b := stands(t)[name]
			before := b.Text()
			if state, err := b.Rescind(member, 7); state != want[member].state || err != want[member].err {
				t.Errorf("%s, by %d: %d, %d, not %v", name, member, state, err, want[member])
			} else if err != api.OK && b.Text() != before {
				t.Errorf("%s, by %d: an error changed it", name, member)
			} else if err == api.OK && b.State(7) != state {
				t.Errorf("%s, by %d: %d was told, but it is %d", name, member, state, b.State(7))
			}
		}
	}
}

func TestRescindWhereThereIsNone(t *testing.T) {
	for name, b := range stands(t) {
		before := b.Text()
		for _, member := range []int{-1, 2, 3, 16, 256, 1 << 32, least, most} {
			if state, err := b.Rescind(member, 7); state != 0 || err != api.ErrName {
				t.Errorf("%s, by %d: %d, %d", name, member, state, err)
			}
		}
		for _, id := range []int{-7, 0, 1, 6, 8, 7 + 1<<32, least, most} {
			if state, err := b.Rescind(0, id); state != 0 || err != api.ErrName {
				t.Errorf("%s, of %d: %d, %d", name, id, state, err)
			}
		}
		if b.Text() != before {
			t.Errorf("%s: it was changed", name)
		}
	}
}

// Who tells first is the A, whatever its number.
func TestRescindOfOneThatTheOtherToldFirst(t *testing.T) {
	b := made(t, 2, 2)
	submits(t, b, turned(one(7)), false, api.OK)
	rescinds(t, b, 0, 7, 0, api.ErrName)
	submits(t, b, one(7), true, api.OK)
	rescinds(t, b, 1, 7, Matched, api.OK)
	if got, want := b.Text(), "\x00\x01"+laid(turned(one(7)), Matched, 1, 1); got != want {
		t.Errorf("%x, not %x", got, want)
	}
	rescinds(t, b, 0, 7, Gone, api.OK)
	if got, want := b.Text(), "\x00\x01"+laid(turned(one(7)), Gone, 3, 1); got != want {
		t.Errorf("%x, not %x", got, want)
	}
}

func TestSettleInEachState(t *testing.T) {
	for name, want := range map[string]api.Errno{
		"alone":               api.ErrPhase,
		"matched":             api.OK,
		"asked by A":          api.OK,
		"asked by B":          api.OK,
		"settled":             api.ErrPhase,
		"settled, asked by A": api.ErrPhase,
		"gone alone":          api.ErrPhase,
		"gone by both":        api.ErrPhase,
		"removed alone":       api.ErrPhase,
		"removed matched":     api.ErrPhase,
	} {
		b := stands(t)[name]
		before := b.Text()
		if err := b.Settle(7); err != want {
			t.Errorf("%s: %d, not %d", name, err, want)
		}
		if want == api.OK && b.State(7) != Settled {
			t.Errorf("%s: it is %d", name, b.State(7))
		}
		if want != api.OK && b.Text() != before {
			t.Errorf("%s: an error changed it", name)
		}
		for _, id := range []int{-7, 0, 6, 7 + 1<<32, least, most} {
			settles(t, b, id, api.ErrName)
		}
	}
}

func TestRemoveInEachState(t *testing.T) {
	for name, open := range map[string]bool{
		"alone": true, "matched": true, "asked by A": true, "asked by B": true, "settled": false,
		"settled, asked by A": false, "gone alone": false, "gone by both": false, "removed alone": false, "removed matched": false,
	} {
		for _, member := range []int{0, 1, 2, -1, 3, 256, 1 << 32, least, most} {
			b := stands(t)[name]
			before := b.Text()
			ids := b.Remove(member)
			if !open || member < 0 || member > 1 {
				lists(t, name, ids)
				if b.Text() != before {
					t.Errorf("%s: %d changed it", name, member)
				}
				continue
			}
			lists(t, name, ids, 7)
			// Its state alone is another one: who asked, and that it was matched, stay.
			want := []byte(before)
			want[2+24] = Gone
			if got := b.Text(); got != string(want) {
				t.Errorf("%s: %x, not %x", name, got, want)
			}
			lists(t, name+", again", b.Remove(member))
		}
	}
}

func TestRemoveLeavesWhatIsOthers(t *testing.T) {
	b := made(t, 4, 2)
	of := func(id, a, other int) api.Deal {
		return api.Deal{Id: id, A: a, B: other, SellCur: 1, BuyCur: 0, Sell: 5, Buy: 6}
	}
	for _, d := range []api.Deal{of(6, 0, 1), of(5, 2, 3), of(4, 1, 2), of(3, 3, 1), of(2, 1, 0), of(1, 0, 2)} {
		submits(t, b, d, false, api.OK)
	}
	for _, d := range []api.Deal{of(2, 1, 0), of(3, 3, 1), of(5, 2, 3)} {
		submits(t, b, turned(d), true, api.OK)
	}
	settles(t, b, 3, api.OK)
	lists(t, "removed", b.Remove(1), 6, 4, 2)
	lists(t, "alone", b.All(Alone), 1)
	lists(t, "matched", b.All(Matched), 5)
	lists(t, "settled", b.All(Settled), 3)
	// One that was removed may come again, with another Id.
	submits(t, b, of(7, 1, 0), false, api.OK)
	lists(t, "alone", b.All(Alone), 1, 7)
}

// The how-manieth one was matched isn't given again, whatever becomes of it.
func TestThatThoseThatWereMatchedAreCountedOnce(t *testing.T) {
	b := made(t, 2, 2)
	for id := 1; id <= 4; id++ {
		submits(t, b, one(id), false, api.OK)
		submits(t, b, turned(one(id)), true, api.OK)
		switch id {
		case 1:
			settles(t, b, 1, api.OK)
		case 2:
			rescinds(t, b, 0, 2, Matched, api.OK)
			rescinds(t, b, 1, 2, Gone, api.OK)
		case 3:
			lists(t, "removed", b.Remove(0), 3)
		}
	}
	want := "\x00\x04" + laid(one(1), Settled, 0, 1) + laid(one(2), Gone, 3, 2) + laid(one(3), Gone, 0, 3) + laid(one(4), Matched, 0, 4)
	if got := b.Text(); got != want {
		t.Errorf("%x, not %x", got, want)
	}
	again, err := Read(want, 2, 2)
	if err != api.OK {
		t.Fatalf("Read: %d", err)
	}
	submits(t, again, one(5), false, api.OK)
	submits(t, again, turned(one(5)), true, api.OK)
	if got := again.Text(); got != "\x00\x05"+want[2:]+laid(one(5), Matched, 0, 5) {
		t.Errorf("%x", got)
	}
}
