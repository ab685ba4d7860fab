package frame

import (
	"hash/crc32"
	"slices"
	"strings"
	"testing"

	"nostro/api"
)

// checked is the document's check, word by word: bit by bit, without an array.
func checked(b string) uint32 {
	c := uint32(1<<32 - 1)
	for _, one := range []byte(b) {
		c ^= uint32(one)
		for range 8 {
			odd := c%2 == 1
			c /= 2
			if odd {
				c ^= 0xEDB88320
			}
		}
	}
	return ^c
}

// mixed are so many bytes of all kinds that follow no plain pattern.
func mixed(count int, seed uint64) string {
	bytes := make([]byte, count)
	state := seed
	for i := range bytes {
		state = state*6364136223846793005 + 1442695040888963407
		bytes[i] = byte(state >> 56)
	}
	return string(bytes)
}

// ordinary are records that have at most some hundred bytes, many of which are no text.
func ordinary() []string {
	return []string{"", "a", "abc", "123456789", "\x00", "\x00\x00\x00\x00", "\xff", "\xff\xff\xff\xff",
		"\x00\xff\x00\xff\x00", "\xc3", "\xa4", "\xe2\x82", "€ and ä", "\xed\xa0\x80", "\ufffd", "\xf0\x9f\x92",
		"\x00\x00\x00\x01\xe8\xb7\xbe\x43a", strings.Repeat("\x00", 100), strings.Repeat("\xff", 100),
		mixed(7, 1), mixed(8, 2), mixed(255, 3), mixed(256, 4), mixed(257, 5)}
}

func TestCheckOfPublishedExamples(t *testing.T) {
	for _, c := range []struct {
		b    string
		want uint32
	}{
		{"123456789", 0xCBF43926},
		{"", 0},
		{"a", 0xE8B7BE43},
		{"abc", 0x352441C2},
		{"\x00", 0xD202EF8D},
		{"\xff", 0xFF000000},
		{"\x00\x00\x00\x00", 0x2144DF1C},
		{"\xff\xff\xff\xff", 0xFFFFFFFF},
		{"The quick brown fox jumps over the lazy dog", 0x414FA339},
	} {
		if got := Check(c.b); got != c.want {
			t.Errorf("Check(%q) = %08x, not %08x", c.b, got, c.want)
		}
	}
}

func TestCheckOfAllBytes(t *testing.T) {
	for one := range 256 {
		for _, b := range []string{string([]byte{byte(one)}), string([]byte{255, byte(one), 0}), string([]byte{byte(one), 200, 10})} {
			if got, want := Check(b), checked(b); got != want {
				t.Errorf("Check(%q) = %08x, not %08x", b, got, want)
			}
		}
	}
}

func TestCheckIsThePublishedOne(t *testing.T) {
	for count := range 300 {
		b := mixed(count, uint64(count))
		if got, want := Check(b), checked(b); got != want {
			t.Errorf("Check(%q) = %08x, not %08x", b, got, want)
		}
	}
	// More than a record may have, too: a check is told of any bytes.
	for _, count := range []int{api.MostRecord - 1, api.MostRecord, api.MostRecord + 1, 1 << 20} {
		b := mixed(count, 9)
		if got, want := Check(b), crc32.ChecksumIEEE([]byte(b)); got != want {
			t.Errorf("of %d bytes: %08x, not %08x", count, got, want)
		}
	}
}

// A byte that is turned, whichever way, turns the check: no two of one length that differ there are alike.
func TestCheckTellsEachByteTurned(t *testing.T) {
	for _, b := range ordinary() {
		check := Check(b)
		for place := range len(b) {
			for by := 1; by < 256; by++ {
				if Check(turned(b, place, byte(by))) == check {
					t.Errorf("%q, byte %d by %d: the check stays", b, place, by)
				}
			}
		}
	}
}

// turned is s, one byte of which is another one.
func turned(s string, place int, by byte) string {
	bytes := []byte(s)
	bytes[place] ^= by
	return string(bytes)
}

func TestCheckKeepsNothing(t *testing.T) {
	first := make([]uint32, 0)
	for _, b := range ordinary() {
		first = append(first, Check(b))
	}
	again := make([]uint32, 0)
	for _, b := range ordinary() {
		again = append(again, Check(b))
	}
	if !slices.Equal(first, again) {
		t.Errorf("%x, then %x", first, again)
	}
}
