package wire

import (
	"strings"
	"testing"

	"nostro/api"
)

// puts holds a command that may be against its bytes, both ways.
func puts(t *testing.T, c Command, want string) {
	t.Helper()
	if !May(c) {
		t.Errorf("May(%v): it may not be", c)
	}
	if got, err := Put(c); got != want || err != api.OK {
		t.Errorf("Put(%v) = %x (%d), not %x", c, got, err, want)
	}
	if got, err := Take(want); got != c || err != api.OK {
		t.Errorf("Take(%x) = %v (%d), not %v", want, got, err, c)
	}
}

// putsNone holds that a command may not be, and has no bytes.
func putsNone(t *testing.T, c Command) {
	t.Helper()
	if May(c) {
		t.Errorf("May(%v): it may be", c)
	}
	if got, err := Put(c); got != "" || err != api.ErrForm {
		t.Errorf("Put(%v) = %x (%d), not ErrForm", c, got, err)
	}
}

// takesNone holds that bytes are no command's.
func takesNone(t *testing.T, s string) {
	t.Helper()
	if got, err := Take(s); got != (Command{}) || err != api.ErrForm {
		t.Errorf("Take(%.80x), %d bytes = %v (%d), not ErrForm", s, len(s), got, err)
	}
}

func TestTheExample(t *testing.T) {
	puts(t, Command{Kind: 3, Member: 2, Cur: 1, Amount: 258}, "\x03\x02\x01\x00\x00\x00\x00\x00\x00\x01\x02")
}

func TestEachKindsBytes(t *testing.T) {
	const amount, amount2 = "\x01\x02\x03\x04\x05\x06\x07\x08", "\xff\xff\xff\xff\xff\xff\xff\xfe"
	for _, one := range []struct {
		c    Command
		want string
	}{
		{Command{Kind: 1, Member: 17, Id: 0x01020304, Other: 18, Cur: 19, Cur2: 20, Amount: 0x0102030405060708, Amount2: -2},
			"\x01" + "\x11" + "\x01\x02\x03\x04" + "\x12" + "\x13" + "\x14" + amount + amount2},
		{Command{Kind: 2, Member: 17, Id: 0x7f020304}, "\x02" + "\x11" + "\x7f\x02\x03\x04"},
		{Command{Kind: 3, Member: 17, Cur: 18, Amount: 0x0102030405060708}, "\x03" + "\x11" + "\x12" + amount},
		{Command{Kind: 4, Id: 0x01020304}, "\x04" + "\x01\x02\x03\x04"},
		{Command{Kind: 5, Cur: 17, Amount: -2}, "\x05" + "\x11" + amount2},
		{Command{Kind: 6, Cur: 17, Amount: -2}, "\x06" + "\x11" + amount2},
		{Command{Kind: 7, Member: 17}, "\x07" + "\x11"},
		{Command{Kind: 8, Id: 0x01020304}, "\x08" + "\x01\x02\x03\x04"},
		{Command{Kind: 9, Member: 17, Cur: 18}, "\x09" + "\x11" + "\x12"},
	} {
		puts(t, one.c, one.want)
	}
}

func TestAmountsAreModulo(t *testing.T) {
	for _, one := range []struct {
		n    int64
		want string
	}{
		{0, "\x00\x00\x00\x00\x00\x00\x00\x00"},
		{1, "\x00\x00\x00\x00\x00\x00\x00\x01"},
		{-1, "\xff\xff\xff\xff\xff\xff\xff\xff"},
		{1 << 32, "\x00\x00\x00\x01\x00\x00\x00\x00"},
		{1<<63 - 1, "\x7f\xff\xff\xff\xff\xff\xff\xff"},
		{-1 << 63, "\x80\x00\x00\x00\x00\x00\x00\x00"},
		{-1<<63 + 1, "\x80\x00\x00\x00\x00\x00\x00\x01"},
	} {
		puts(t, Command{Kind: 5, Cur: 1, Amount: one.n}, "\x05\x01"+one.want)
		puts(t, Command{Kind: 1, Amount: one.n, Amount2: one.n}, "\x01"+strings.Repeat("\x00", 8)+one.want+one.want)
	}
}

func TestCommandsThatMayBe(t *testing.T) {
	for _, c := range ordinary() {
		if !mayBe(c) {
			t.Fatalf("the test itself holds that %v may not be", c)
		}
		puts(t, c, bytesOf(c))
	}
}

func TestCommandsThatMayNotBe(t *testing.T) {
	for _, c := range wrong() {
		if mayBe(c) {
			t.Fatalf("the test itself holds that %v may be", c)
		}
		putsNone(t, c)
	}
}

func TestCommandsOfTwoFaults(t *testing.T) {
	putsNone(t, Command{Kind: 2, Member: 256, Id: -1})
	putsNone(t, Command{Kind: 9, Member: -1, Cur: 256})
	putsNone(t, Command{Kind: 7, Cur: 1, Amount: 1})
	putsNone(t, Command{Kind: -1, Member: -1, Id: -1, Other: -1, Cur: -1, Cur2: -1, Amount: -1, Amount2: -1})
	// What is left over of one number can't come in for another one's lack.
	putsNone(t, Command{Kind: 9, Member: 256, Cur: -1})
	putsNone(t, Command{Kind: 2, Member: -1, Id: 1 << 32})
}

func TestTakeOfBytesThatAreTooFewOrTooMany(t *testing.T) {
	takesNone(t, "")
	for kind := 1; kind <= 9; kind++ {
		for _, c := range []Command{{Kind: kind}, plain(kind)} {
			s := bytesOf(c)
			for size := range len(s) {
				takesNone(t, s[:size])
			}
			for _, more := range []string{"\x00", "\x01", "\xff", "\x00\x00", s, bytesOf(plain(4)), strings.Repeat("\x00", 1<<20)} {
				takesNone(t, s+more)
			}
			takesNone(t, "\x00"+s)
		}
	}
}

func TestTakeOfEachLength(t *testing.T) {
	for kind := range 256 {
		for size := range 64 {
			s := string([]byte{byte(kind)}) + strings.Repeat("\x00", size)
			if isKind(kind) && len(s) == sizeOfKind(kind) {
				puts(t, Command{Kind: kind}, s)
			} else {
				takesNone(t, s)
			}
		}
	}
}

func TestTakeOfAnIdThatIsTooGreat(t *testing.T) {
	for _, id := range []string{"\x80\x00\x00\x00", "\x80\x00\x00\x01", "\xff\xff\xff\xff", "\xff\x00\x00\x00", "\x90\x12\x34\x56"} {
		for _, front := range []string{"\x04", "\x08", "\x02\x01", "\x02\x00"} {
			takesNone(t, front+id)
		}
		takesNone(t, "\x01\x01"+id+strings.Repeat("\x01", 19))
	}
}

// Bytes that are no text, or letters of several bytes, are bytes as all others.
func TestTakeOfAllBytes(t *testing.T) {
	for one := range 256 {
		b := string([]byte{byte(one)})
		puts(t, Command{Kind: 7, Member: one}, "\x07"+b)
		for two := range 256 {
			puts(t, Command{Kind: 9, Member: one, Cur: two}, "\x09"+b+string([]byte{byte(two)}))
		}
		puts(t, Command{Kind: 5, Cur: one, Amount: int64(one)}, "\x05"+b+strings.Repeat("\x00", 7)+b)
	}
	puts(t, Command{Kind: 9, Member: 0xc3, Cur: 0xa4}, "\x09ä")
	puts(t, Command{Kind: 4, Id: 0x31323334}, "\x041234")
}

// P7.3: a command that is taken is the one whose bytes these are, so no other one is.
func takenComesBack(t *testing.T, s string) {
	t.Helper()
	c, err := Take(s)
	if err != api.OK {
		takesNone(t, s)
		return
	}
	if !mayBe(c) || bytesOf(c) != s {
		t.Errorf("Take(%x) = %v, which hasn't these bytes", s, c)
	}
	puts(t, c, s)
}

func TestThereAndBack(t *testing.T) {
	takenComesBack(t, "")
	for one := range 256 {
		takenComesBack(t, string([]byte{byte(one)}))
		for two := range 256 {
			takenComesBack(t, string([]byte{byte(one), byte(two)}))
		}
	}
	for kind := range 12 {
		for size := range 40 {
			for seed := range 20 {
				takenComesBack(t, string([]byte{byte(kind)})+mixed(size, uint64(seed+1)))
			}
		}
	}
}

// No two commands have the same bytes.
func TestEachHasBytesOfItsOwn(t *testing.T) {
	whose := map[string]Command{}
	for _, c := range ordinary() {
		s, _ := Put(c)
		if other, is := whose[s]; is && other != c {
			t.Errorf("%x are bytes of %v and of %v", s, c, other)
		}
		whose[s] = c
	}
}

func TestAByteThatIsTurnedTellsAnotherCommandOrNone(t *testing.T) {
	for kind := 1; kind <= 9; kind++ {
		c := plain(kind)
		s := bytesOf(c)
		for at := range len(s) {
			for by := 1; by < 256; by++ {
				b := []byte(s)
				b[at] ^= byte(by)
				takenComesBack(t, string(b))
				if got, _ := Take(string(b)); got == c {
					t.Errorf("%x and %x both are bytes of %v", s, b, c)
				}
			}
		}
	}
}

func TestCallsAnswerTheSameAgain(t *testing.T) {
	for range 2 {
		for _, c := range wrong() {
			putsNone(t, c)
		}
		for kind := 1; kind <= 9; kind++ {
			puts(t, plain(kind), bytesOf(plain(kind)))
		}
	}
}
