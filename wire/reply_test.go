package wire

import (
	"slices"
	"strings"
	"testing"

	"nostro/api"
)

func sameReply(a, b Reply) bool {
	return a.E == b.E && a.Value == b.Value && slices.Equal(a.Ids, b.Ids)
}

// putsReply holds a reply that may be against its bytes, both ways.
func putsReply(t *testing.T, r Reply, want string) {
	t.Helper()
	before := slices.Clone(r.Ids)
	if got, err := PutReply(r); got != want || err != api.OK {
		t.Errorf("PutReply(%v) = %.80x (%d), not %.80x", r, got, err, want)
	}
	if !slices.Equal(r.Ids, before) {
		t.Errorf("%v has become %v", before, r.Ids)
	}
	if got, err := TakeReply(want); !sameReply(got, r) || err != api.OK {
		t.Errorf("TakeReply(%.80x) = %v (%d), not %v", want, got, err, r)
	}
}

// takesNoReply holds that bytes are no reply's.
func takesNoReply(t *testing.T, s string) {
	t.Helper()
	if got, err := TakeReply(s); got.E != 0 || got.Value != 0 || len(got.Ids) != 0 || err != api.ErrForm {
		t.Errorf("TakeReply(%.80x), %d bytes = %v (%d), not ErrForm", s, len(s), got, err)
	}
}

func TestRepliesBytes(t *testing.T) {
	const none = "\x00\x00"
	for _, one := range []struct {
		r    Reply
		want string
	}{
		{Reply{}, "\x00" + "\x00\x00\x00\x00\x00\x00\x00\x00" + none},
		{Reply{E: api.ErrForm}, "\x02" + "\x00\x00\x00\x00\x00\x00\x00\x00" + none},
		{Reply{E: api.ErrUnfit}, "\x0c" + "\x00\x00\x00\x00\x00\x00\x00\x00" + none},
		{Reply{E: 255, Value: 258}, "\xff" + "\x00\x00\x00\x00\x00\x00\x01\x02" + none},
		{Reply{Value: 0x0102030405060708}, "\x00" + "\x01\x02\x03\x04\x05\x06\x07\x08" + none},
		{Reply{Value: -2}, "\x00" + "\xff\xff\xff\xff\xff\xff\xff\xfe" + none},
		{Reply{Value: -1 << 63}, "\x00" + "\x80\x00\x00\x00\x00\x00\x00\x00" + none},
		{Reply{Value: 1<<63 - 1}, "\x00" + "\x7f\xff\xff\xff\xff\xff\xff\xff" + none},
		{Reply{E: 1, Value: 2, Ids: []int{0x01020304}}, "\x01" + "\x00\x00\x00\x00\x00\x00\x00\x02" + "\x00\x01" + "\x01\x02\x03\x04"},
		{Reply{Ids: []int{0, 1<<31 - 1, 256}}, "\x00" + "\x00\x00\x00\x00\x00\x00\x00\x00" + "\x00\x03" +
			"\x00\x00\x00\x00" + "\x7f\xff\xff\xff" + "\x00\x00\x01\x00"},
		{Reply{Ids: make([]int, 200)}, strings.Repeat("\x00", 9) + "\x00\xc8" + strings.Repeat("\x00", 800)},
	} {
		putsReply(t, one.r, one.want)
	}
}

func TestRepliesThatMayBe(t *testing.T) {
	for _, r := range replies() {
		putsReply(t, r, bytesOfReply(r))
	}
}

func TestRepliesThatMayNotBe(t *testing.T) {
	for _, r := range wrongReplies() {
		before := slices.Clone(r.Ids)
		if got, err := PutReply(r); got != "" || err != api.ErrForm {
			t.Errorf("PutReply of E %d and %d Ids = %.80x (%d), not ErrForm", r.E, len(r.Ids), got, err)
		}
		if !slices.Equal(r.Ids, before) {
			t.Errorf("%v has become %v", before, r.Ids)
		}
	}
}

func TestNoIdsAreOne(t *testing.T) {
	one, _ := PutReply(Reply{E: 3, Ids: nil})
	other, _ := PutReply(Reply{E: 3, Ids: []int{}})
	if one != other {
		t.Errorf("%x, but %x", one, other)
	}
}

func TestTakeReplyOfBytesThatAreTooFewOrTooMany(t *testing.T) {
	takesNoReply(t, "")
	for _, r := range []Reply{{}, {E: 7, Value: -5}, {Ids: []int{9}}, {E: 1, Value: 2, Ids: row(3)}, {Ids: row(200)}} {
		s := bytesOfReply(r)
		for size := range len(s) {
			takesNoReply(t, s[:size])
		}
		for _, more := range []string{"\x00", "\xff", "\x00\x00", "\x00\x00\x00\x00", "\x00\x00\x00\x00\x00", s, strings.Repeat("\x00", 1<<20)} {
			takesNoReply(t, s+more)
		}
		takesNoReply(t, "\x00"+s)
	}
}

// What stands there as how many Ids there are must be just that, and no more than MostDeals.
func TestTakeReplyOfACountThatIsWrong(t *testing.T) {
	for count := range 300 {
		for _, told := range []int{0, 1, 2, 199, 200, 201, 255, 256, 257, count, count + 256, 65535} {
			s := strings.Repeat("\x00", 9) + number(int64(told), 2) + strings.Repeat("\x00", 4*count)
			if told == count && count <= api.MostDeals {
				putsReply(t, Reply{Ids: make([]int, count)}, s)
			} else {
				takesNoReply(t, s)
			}
		}
	}
	for _, count := range []int{201, 256, 65535} {
		takesNoReply(t, strings.Repeat("\x00", 9)+number(int64(count), 2)+strings.Repeat("\x00", 4*count))
	}
	// Of 65536 Ids the two bytes would tell none.
	takesNoReply(t, strings.Repeat("\x00", 11+4*65536))
}

func TestTakeReplyOfAnIdThatIsTooGreat(t *testing.T) {
	for _, id := range []string{"\x80\x00\x00\x00", "\x80\x00\x00\x01", "\xff\xff\xff\xff", "\xff\x00\x00\x00"} {
		front := strings.Repeat("\x00", 10)
		takesNoReply(t, front+"\x01"+id)
		takesNoReply(t, front+"\x03"+id+"\x00\x00\x00\x01\x00\x00\x00\x02")
		takesNoReply(t, front+"\x03"+"\x00\x00\x00\x01\x00\x00\x00\x02"+id)
		takesNoReply(t, front+"\xc8"+strings.Repeat("\x00", 4*199)+id)
	}
}

// P7.3: a reply that is taken is the one whose bytes these are, so no other one is.
func takenReplyComesBack(t *testing.T, s string) {
	t.Helper()
	r, err := TakeReply(s)
	if err != api.OK {
		takesNoReply(t, s)
		return
	}
	if bytesOfReply(r) != s {
		t.Errorf("TakeReply(%.80x) = %v, which hasn't these bytes", s, r)
	}
	putsReply(t, r, s)
}

func TestRepliesThereAndBack(t *testing.T) {
	for count := range 20 {
		for seed := range 50 {
			for _, told := range []int{count, count + 1, count * 256} {
				takenReplyComesBack(t, mixed(9, uint64(seed+1))+number(int64(told), 2)+mixed(4*count, uint64(seed+100)))
			}
			takenReplyComesBack(t, mixed(4*count+11, uint64(seed+1)))
		}
	}
	r := Reply{E: 4, Value: 5, Ids: row(3)}
	s := bytesOfReply(r)
	for at := range len(s) {
		for by := 1; by < 256; by++ {
			b := []byte(s)
			b[at] ^= byte(by)
			takenReplyComesBack(t, string(b))
			if got, _ := TakeReply(string(b)); sameReply(got, r) {
				t.Errorf("%x and %x both are bytes of %v", s, b, r)
			}
		}
	}
}

// Rule R3: the Ids that are told are the caller's own.
func TestTakeReplySharesNothing(t *testing.T) {
	s := bytesOfReply(Reply{Ids: []int{1, 2, 3}})
	one, _ := TakeReply(s)
	one.Ids[0] = 9
	one.Ids = append(one.Ids[:1], 8, 7)
	if again, err := TakeReply(s); err != api.OK || !slices.Equal(again.Ids, []int{1, 2, 3}) {
		t.Errorf("%v (%d)", again, err)
	}
}
