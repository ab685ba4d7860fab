package frame

import (
	"slices"
	"strings"
	"testing"

	"nostro/api"
)

func scans(t *testing.T, s string, records []string, size, behind int) {
	t.Helper()
	gotRecords, gotSize, gotBehind := Scan(s)
	if !slices.Equal(gotRecords, records) || gotSize != size || gotBehind != behind {
		t.Errorf("%s:\n%s, %d bytes, behind them %d, not\n%s, %d bytes, behind them %d", brief([]string{s}),
			brief(gotRecords), gotSize, gotBehind, brief(records), size, behind)
	}
}

// brief tells records, of long ones the first bytes alone.
func brief(l []string) string {
	var b strings.Builder
	for _, one := range l {
		b.WriteString("[")
		for _, c := range []byte(one[:min(len(one), 40)]) {
			b.WriteString(" " + string("0123456789abcdef"[c/16]) + string("0123456789abcdef"[c%16]))
		}
		b.WriteString(" ]")
	}
	return b.String()
}

// told is what the document tells of s, word by word: first the frames that stand there, then what is behind.
func told(s string) (records []string, size, behind int) {
	big := func(s string) int { return int(s[0])<<24 + int(s[1])<<16 + int(s[2])<<8 + int(s[3]) }
	enough := func(s string) bool { return len(s) >= 8 && len(s)-8 >= big(s) }
	right := func(s string) bool { return number(checked(s[8:8+big(s)])) == s[4:8] }
	stands := func(s string) bool { return enough(s) && big(s) <= api.MostRecord && right(s) }
	for stands(s[size:]) {
		end := size + 8 + big(s[size:])
		records = append(records, s[size+8:end])
		size = end
	}
	rest := s[size:]
	switch {
	case rest == "":
		return records, size, 0
	case len(rest) < 8:
		return records, size, 1
	case big(rest) > api.MostRecord:
		return records, size, 2
	case !enough(rest):
		return records, size, 1
	case 8+big(rest) == len(rest):
		return records, size, 1
	}
	return records, size, 2
}

func TestTheNumbersOfWhatIsBehind(t *testing.T) {
	if Whole != 0 || Torn != 1 || Bad != 2 {
		t.Errorf("%d, %d, %d", Whole, Torn, Bad)
	}
}

func TestScanTellsWhatWasLaid(t *testing.T) {
	for _, l := range lists() {
		s, _ := All(l)
		scans(t, s, l, len(s), Whole)
	}
	for _, count := range []int{255, 256, 65280, api.MostRecord - 1, api.MostRecord} {
		b := mixed(count, 13)
		s, _ := Put(b)
		scans(t, s, []string{b}, 8+count, Whole)
		s, _ = All([]string{"a", b, "", b})
		scans(t, s, []string{"a", b, "", b}, 9+8+count+8+8+count, Whole)
	}
}

func TestScanOfManyFrames(t *testing.T) {
	const count = 50000
	l := slices.Repeat([]string{"", "a", "\xff\x00"}, count)
	s, err := All(l)
	if err != api.OK {
		t.Fatal(err)
	}
	scans(t, s, l, len(s), Whole)
	scans(t, s[:len(s)-1], l[:len(l)-1], len(s)-10, Torn)
	scans(t, strings.Repeat("\x00", 8*count), make([]string, count), 8*count, Whole)
	scans(t, strings.Repeat("\x00", 8*count+7), make([]string, count), 8*count, Torn)
}

// Of a part from the first byte on just those that are whole are told; the others' bytes are torn, never bad.
func TestScanOfEachPart(t *testing.T) {
	for _, l := range lists() {
		s, _ := All(l)
		whole, size := 0, 0
		for cut := 0; cut <= len(s); cut++ {
			for whole < len(l) && size+8+len(l[whole]) <= cut {
				size += 8 + len(l[whole])
				whole++
			}
			behind := Torn
			if size == cut {
				behind = Whole
			}
			scans(t, s[:cut], l[:whole], size, behind)
		}
	}
	b := mixed(api.MostRecord, 14)
	s, _ := Put(b)
	for _, cut := range []int{1, 4, 7, 8, 9, 255, 256, 65535, 65536, 65543} {
		scans(t, s[:cut], nil, 0, Torn)
	}
}

func TestScanTellsTornFromBad(t *testing.T) {
	wrong := number(checked("abc")^1) + "abc"
	for _, c := range []struct {
		s      string
		behind int
	}{
		{"", Whole},
		// fewer than eight bytes, whatever they say
		{"\x00", Torn},
		{"\xff\xff\xff\xff\xff\xff\xff", Torn},
		{"\x00\x01\x00\x01aaa", Torn},
		{"\x00\x00\x00\x00\x00\x00\x00", Torn},
		{"\x00\x00\x00\x00\x00\x00\x01", Torn},
		// fewer bytes than the length says
		{number(1) + number(0), Torn},
		{number(3) + number(checked("abc")) + "ab", Torn},
		{number(4) + number(checked("abc")) + "abc", Torn},
		{number(api.MostRecord) + "aaaa", Torn},
		{number(api.MostRecord) + number(0) + strings.Repeat("x", api.MostRecord-1), Torn},
		// too great a length, even if there are fewer bytes than it says
		{number(api.MostRecord+1) + "aaaa", Bad},
		{number(api.MostRecord+1) + number(0) + strings.Repeat("x", api.MostRecord), Bad},
		{number(1<<24) + "aaaa", Bad},
		{number(1<<31-1) + "aaaa", Bad},
		{number(1<<31) + "aaaa", Bad},
		{number(1<<31) + number(0), Bad},
		{number(1<<32-8) + number(0) + "abc", Bad},
		{number(1<<32-1) + number(1<<32-1), Bad},
		{number(1<<32-1) + number(1<<32-1) + "abc", Bad},
		// a wrong check, of the frame that ends with the bytes, and of one that ends ahead of them
		{number(3) + wrong, Torn},
		{number(0) + number(1), Torn},
		{number(0) + number(1<<31), Torn},
		{number(3) + wrong + "x", Bad},
		{number(0) + number(1) + "\x00", Bad},
		{number(2) + wrong, Bad},
		{number(3) + wrong + framed("abc"), Bad},
		{number(3) + wrong + strings.Repeat("\x00", 7), Bad},
	} {
		scans(t, c.s, nil, 0, c.behind)
		for _, l := range [][]string{{""}, {"abc"}, {"abc", "", "\xff\x00"}} {
			frames := framedAll(l)
			scans(t, frames+c.s, l, len(frames), c.behind)
		}
	}
}

// A record that is too long is none, though all its bytes are there and its check is right.
func TestScanOfTheLongestLength(t *testing.T) {
	longest, long := mixed(api.MostRecord, 15), mixed(api.MostRecord+1, 15)
	scans(t, framed(longest), []string{longest}, 8+api.MostRecord, Whole)
	scans(t, framed(longest)+"\xff", []string{longest}, 8+api.MostRecord, Torn)
	scans(t, framed(long), nil, 0, Bad)
	scans(t, framed(long)+framed("abc"), nil, 0, Bad)
	scans(t, framed("abc")+framed(long), []string{"abc"}, 11, Bad)
	scans(t, framed("abc")+framed(long)[:100], []string{"abc"}, 11, Bad)
	scans(t, turned(framed(longest), 8+api.MostRecord-1, 1), nil, 0, Torn)
	scans(t, turned(framed(longest), 8+api.MostRecord-1, 1)+"x", nil, 0, Bad)
}

func TestScanOfFewerThanEightBytesBehind(t *testing.T) {
	heads := []string{number(0) + number(0), number(1<<32-1) + number(1<<32-1), number(api.MostRecord+1) + "aaaa",
		number(1) + number(checked("a")), framed("abc")}
	for _, l := range lists() {
		frames := framedAll(l)
		for _, head := range heads {
			for count := 1; count < 8; count++ {
				scans(t, frames+head[:count], l, len(frames), Torn)
			}
		}
	}
}

// behindTurned is what the chapter's words come to of a frame, one byte of which is turned, with more bytes behind it.
func behindTurned(frame string, more int) int {
	length := int(frame[0])<<24 + int(frame[1])<<16 + int(frame[2])<<8 + int(frame[3])
	there := len(frame) - 8 + more
	switch {
	case length > api.MostRecord:
		return Bad
	case length >= there:
		return Torn
	}
	return Bad
}

func TestScanOfEachByteTurned(t *testing.T) {
	for _, ahead := range [][]string{nil, {""}, {"xy", "\xff\x00\xff"}} {
		for _, b := range []string{"", "a", "abc", "123456789", "\x00\xff\xc3", mixed(20, 16)} {
			for _, behind := range [][]string{nil, {""}, {"a"}, {"abc", "", "123456789"}} {
				first, last := framedAll(ahead), framedAll(behind)
				for place := range len(framed(b)) {
					for by := 1; by < 256; by++ {
						frame := turned(framed(b), place, byte(by))
						scans(t, first+frame+last, ahead, len(first), behindTurned(frame, len(last)))
					}
				}
			}
		}
	}
}

// What a byte turned comes to where a number in a frame is laid, told by hand.
func TestScanOfSomeBytesTurned(t *testing.T) {
	s := framedAll([]string{"abc", "", "de"}) // frames from 0, 11 and 19 to 29
	for _, c := range []struct {
		place, frames, size int
		by                  byte
		behind              int
	}{
		{0, 0, 0, 1, Bad},     // a length of 2^24 + 3
		{1, 0, 0, 1, Bad},     // a length of 2^16 + 3
		{2, 0, 0, 1, Torn},    // a length of 259, with fewer bytes there
		{3, 0, 0, 1, Bad},     // a length of 2, with more there
		{3, 0, 0, 0x16, Torn}, // a length of 21, that ends with the bytes
		{4, 0, 0, 1, Bad},     // the first check
		{8, 0, 0, 128, Bad},   // the first record
		{18, 1, 11, 1, Bad},   // the second check
		{14, 1, 11, 8, Bad},   // a length of 8, of nothing
		{14, 1, 11, 10, Torn}, // a length of 10, that ends with the bytes
		{22, 2, 19, 1, Torn},  // the last length, 3
		{22, 2, 19, 3, Bad},   // the last length, 1
		{23, 2, 19, 1, Torn},  // the last check
		{28, 2, 19, 1, Torn},  // the last byte
	} {
		scans(t, turned(s, c.place, c.by), []string{"abc", "", "de"}[:c.frames], c.size, c.behind)
	}
}

// The check isn't one of the length: a record can be made up of which a beginning has the same check, and even one
// whose other bytes are a frame then. What stands there is what P4.2 tells.
func TestScanOfALengthTurnedToThatOfABeginning(t *testing.T) {
	torn, frame := "\x9d\x0a\xd9\x6d", framed("\x00\x00\x00\x9a\xff\xda\x00")
	for _, made := range []string{torn, frame} {
		if Check(made) != Check("") {
			t.Fatalf("%q: %08x", made, Check(made))
		}
		scans(t, framed(made), []string{made}, 8+len(made), Whole)
	}
	scans(t, turned(framed(torn), 3, 4), []string{""}, 8, Torn)
	scans(t, turned(framed(torn), 3, 4)+framed("abc"), []string{""}, 8, Bad)
	scans(t, turned(framed(frame), 3, 15), []string{"", frame[8:]}, 23, Whole)
}

// Each sum of bytes of a few kinds, so that frames, torn ones and bad ones come behind one another in all ways.
func TestScanIsWhatTheChapterTells(t *testing.T) {
	pieces := []string{"", "\x00", "\x01", "\xff", number(0), number(1), number(2), number(9), number(api.MostRecord),
		number(api.MostRecord + 1), framed(""), framed("a"), framed("\x00\xff"), framed("\x01"), number(checked("a")), "a"}
	for _, a := range pieces {
		for _, b := range pieces {
			for _, c := range pieces {
				for _, d := range pieces {
					s := a + b + c + d
					records, size, behind := told(s)
					scans(t, s, records, size, behind)
				}
			}
		}
	}
}

func TestScanOfAnyBytes(t *testing.T) {
	for count := range 300 {
		for seed := range uint64(20) {
			s := mixed(count, seed)
			records, size, behind := told(s)
			scans(t, s, records, size, behind)
			s = framed("abc") + strings.Repeat("\x00", int(seed)) + s
			records, size, behind = told(s)
			scans(t, s, records, size, behind)
		}
	}
}

// What stands ahead of the first frame isn't gone over: a frame further on is none that stands there.
func TestScanBeginsWithTheFirstByte(t *testing.T) {
	scans(t, "x"+framed("abc"), nil, 0, Bad)
	scans(t, strings.Repeat("\x00", 4)+framed("abc"), nil, 0, Bad)
	scans(t, framed("")+"\x01"+framed("abc"), []string{""}, 8, Bad)
}

func TestScanTellsListsOfTheirOwn(t *testing.T) {
	s := framedAll([]string{"abc", "de"})
	first, _, _ := Scan(s)
	again, _, _ := Scan(s)
	first[0] = "changed"
	if !slices.Equal(again, []string{"abc", "de"}) {
		t.Errorf("%q", again)
	}
	scans(t, s, []string{"abc", "de"}, len(s), Whole)
}
