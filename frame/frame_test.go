package frame

import (
	"slices"
	"strings"
	"testing"

	"nostro/api"
)

// number is n by four bytes, the highest first.
func number(n uint32) string {
	var bytes [4]byte
	for i := range bytes {
		bytes[3-i] = byte(n)
		n /= 256
	}
	return string(bytes[:])
}

// framed is a record's frame as the document tells it.
func framed(b string) string {
	return number(uint32(len(b))) + number(checked(b)) + b
}

// framedAll is the frames of records, one behind the other.
func framedAll(l []string) string {
	s := ""
	for _, b := range l {
		s += framed(b)
	}
	return s
}

// lists are lists of records: none, one, and several.
func lists() [][]string {
	l := [][]string{nil, {}, {""}, {"", ""}, {"", "", ""}, {"abc"}, {"abc", "", "de"}, {"", "abc"}, {"abc", ""},
		{"a", "a", "a"}, {"abc", "\x00\xff", "\xc3", "", "\xff\xff\xff\xff", "123456789"}, ordinary()}
	for _, b := range ordinary() {
		l = append(l, []string{b})
	}
	return l
}

func TestPut(t *testing.T) {
	for _, c := range []struct{ b, want string }{
		{"", "\x00\x00\x00\x00\x00\x00\x00\x00"},
		{"a", "\x00\x00\x00\x01\xe8\xb7\xbe\x43a"},
		{"abc", "\x00\x00\x00\x03\x35\x24\x41\xc2abc"},
		{"123456789", "\x00\x00\x00\x09\xcb\xf4\x39\x26123456789"},
		{"\x00", "\x00\x00\x00\x01\xd2\x02\xef\x8d\x00"},
		{"\xff", "\x00\x00\x00\x01\xff\x00\x00\x00\xff"},
		{"\xff\xff\xff\xff", "\x00\x00\x00\x04\xff\xff\xff\xff\xff\xff\xff\xff"},
	} {
		if got, err := Put(c.b); err != api.OK || got != c.want {
			t.Errorf("Put(%q) = %q (%d), not %q", c.b, got, err, c.want)
		}
	}
	for _, b := range ordinary() {
		if got, err := Put(b); err != api.OK || got != framed(b) {
			t.Errorf("Put(%q) = %q (%d), not %q", b, got, err, framed(b))
		}
	}
}

func TestPutOfTheLongestRecords(t *testing.T) {
	for _, count := range []int{255, 256, 257, 65279, 65280, api.MostRecord - 1, api.MostRecord} {
		b := mixed(count, 11)
		if got, err := Put(b); err != api.OK || got != framed(b) {
			t.Errorf("of %d bytes: %d bytes (%d)", count, len(got), err)
		}
	}
	if got, _ := Put(strings.Repeat("x", api.MostRecord)); !strings.HasPrefix(got, "\x00\x01\x00\x00") {
		t.Errorf("the longest one's length is laid as %q", got[:4])
	}
	for _, count := range []int{api.MostRecord + 1, api.MostRecord + 2, 2 * api.MostRecord, 1 << 24} {
		if got, err := Put(strings.Repeat("x", count)); err != api.ErrMany || got != "" {
			t.Errorf("of %d bytes: %d bytes (%d), not ErrMany", count, len(got), err)
		}
	}
}

func TestAll(t *testing.T) {
	for _, l := range lists() {
		before := slices.Clone(l)
		if got, err := All(l); err != api.OK || got != framedAll(l) {
			t.Errorf("All(%q) = %q (%d), not %q", l, got, err, framedAll(l))
		}
		if !slices.Equal(l, before) {
			t.Errorf("%q has become %q", before, l)
		}
	}
	if got, err := All(nil); err != api.OK || got != "" {
		t.Errorf("of none: %q (%d)", got, err)
	}
}

func TestAllIsOnePutBehindTheOther(t *testing.T) {
	for _, l := range lists() {
		want := ""
		for _, b := range l {
			one, _ := Put(b)
			want += one
		}
		if got, err := All(l); err != api.OK || got != want {
			t.Errorf("All(%q) = %q (%d), not %q", l, got, err, want)
		}
	}
}

func TestAllOfOneThatIsTooLong(t *testing.T) {
	longest, long := mixed(api.MostRecord, 12), mixed(api.MostRecord+1, 12)
	if got, err := All([]string{longest, "", longest}); err != api.OK || got != framedAll([]string{longest, "", longest}) {
		t.Errorf("two of the longest: %d bytes (%d)", len(got), err)
	}
	for _, l := range [][]string{{long}, {long, "a"}, {"a", long}, {"", long, ""}, {longest, longest, long}, {long, long}} {
		before := slices.Clone(l)
		if got, err := All(l); err != api.ErrMany || got != "" {
			t.Errorf("of %d records: %d bytes (%d), not ErrMany", len(l), len(got), err)
		}
		if !slices.Equal(l, before) {
			t.Errorf("%d records are other ones", len(l))
		}
	}
}
