package disk

import (
	"math"
	"strings"
	"testing"

	"nostro/api"
)

// allBytes has each byte once: 0, those of no letter, and all others.
func allBytes() string {
	bytes := make([]byte, 256)
	for i := range bytes {
		bytes[i] = byte(i)
	}
	return string(bytes)
}

// noFiles are numbers of files that aren't there.
func noFiles() []int {
	return []int{-1, 4, 5, -4, 256, 1 << 32, math.MinInt, math.MaxInt}
}

func made(t *testing.T, room int) *Disk {
	t.Helper()
	d, err := New(room)
	if err != api.OK || d == nil {
		t.Fatalf("New(%d): %v, %d", room, d, err)
	}
	return d
}

// is tells where a call answered another error.
func is(t *testing.T, got, want api.Errno) {
	t.Helper()
	if got != want {
		t.Errorf("%d, not %d", got, want)
	}
}

// holds holds files against what they are to have, from file 0 on; those that aren't named have nothing.
func holds(t *testing.T, d *Disk, want ...string) {
	t.Helper()
	left := d.room
	for file := range 4 {
		one := ""
		if file < len(want) {
			one = want[file]
		}
		if got, err := d.Read(file); got != one || err != api.OK {
			t.Errorf("file %d: %.80q (%d bytes, %d), not %.80q (%d bytes)", file, got, len(got), err, one, len(one))
		}
		left -= len(one)
	}
	if got := d.Left(); got != left {
		t.Errorf("%d are left, not %d", got, left)
	}
}

func none() [4]int {
	return [4]int{}
}

func all() [4]int {
	return [4]int{math.MaxInt, math.MaxInt, math.MaxInt, math.MaxInt}
}

func TestNew(t *testing.T) {
	for _, room := range []int{0, 1, 10, api.MostRecord, 1<<24 - 1, 1 << 24} {
		d := made(t, room)
		holds(t, d)
		if d.Left() != room {
			t.Errorf("New(%d): %d are left", room, d.Left())
		}
	}
	for _, room := range []int{-1, -2, 1<<24 + 1, 1 << 25, 1 << 32, math.MinInt, math.MaxInt} {
		if d, err := New(room); err != api.ErrArg || d != nil {
			t.Errorf("New(%d): %v, %d, not ErrArg", room, d, err)
		}
	}
}

// A new disk has power, and no fuse: it goes on however often it is asked.
func TestNewHasPowerAndNoFuse(t *testing.T) {
	d := made(t, 5)
	for range 1000 {
		is(t, d.Append(1, ""), api.OK)
		is(t, d.Sync(1), api.OK)
	}
}

func TestRead(t *testing.T) {
	d := made(t, 1000)
	for file, b := range []string{"", "abc", allBytes(), "\x00\xff\xc3"} {
		is(t, d.Append(file, b), api.OK)
	}
	holds(t, d, "", "abc", allBytes(), "\x00\xff\xc3")
	for _, file := range noFiles() {
		if got, err := d.Read(file); got != "" || err != api.ErrArg {
			t.Errorf("Read(%d): %q (%d), not ErrArg", file, got, err)
		}
	}
}

func TestReadNeedsNoPower(t *testing.T) {
	d := made(t, 10)
	is(t, d.Append(2, "abc"), api.OK)
	d.Fuse(1)
	holds(t, d, "", "", "abc")
	is(t, d.Sync(0), api.OK)
	holds(t, d, "", "", "abc")
	is(t, d.Sync(0), api.ErrDown)
	holds(t, d, "", "", "abc")
	for _, file := range noFiles() {
		if got, err := d.Read(file); got != "" || err != api.ErrArg {
			t.Errorf("Read(%d): %q (%d), not ErrArg", file, got, err)
		}
	}
}

// What was read stays as it was, whatever the disk does then.
func TestWhatWasReadStays(t *testing.T) {
	d := made(t, 100)
	is(t, d.Append(0, "abcdef"), api.OK)
	whole, _ := d.Read(0)
	is(t, d.Cut(0, 2), api.OK)
	cut, _ := d.Read(0)
	is(t, d.Append(0, "xyz"), api.OK)
	longer, _ := d.Read(0)
	is(t, d.Move(0, 1), api.OK)
	is(t, d.Append(0, "123456"), api.OK)
	d.Crash(none())
	is(t, d.Append(1, "789"), api.OK)
	if whole != "abcdef" || cut != "ab" || longer != "abxyz" {
		t.Errorf("%q, %q, %q", whole, cut, longer)
	}
}

// Bytes laid by a caller who changes them behind the call are those that were told.
func TestWhatIsLaidIsTheDisksOwn(t *testing.T) {
	d := made(t, 100)
	bytes := []byte("abc")
	is(t, d.Append(0, string(bytes)), api.OK)
	bytes[0] = 'X'
	holds(t, d, "abc")
}

func TestLeft(t *testing.T) {
	d := made(t, 20)
	for _, c := range []struct {
		call func() api.Errno
		left int
	}{
		{func() api.Errno { return d.Append(0, "12345") }, 15},
		{func() api.Errno { return d.Append(3, "123") }, 12},
		{func() api.Errno { return d.Append(0, "") }, 12},
		{func() api.Errno { return d.Sync(0) }, 12},
		{func() api.Errno { return d.Append(1, "1234567") }, 5},
		{func() api.Errno { return d.Cut(1, 7) }, 5},
		{func() api.Errno { return d.Cut(1, 6) }, 6},
		{func() api.Errno { return d.Move(3, 0) }, 11},
		{func() api.Errno { return d.Move(3, 2) }, 11},
		{func() api.Errno { return d.Move(1, 2) }, 11},
		{func() api.Errno { return d.Move(2, 2) }, 11},
		{func() api.Errno { return d.Append(2, strings.Repeat("x", 11)) }, 0},
		{func() api.Errno { return d.Move(0, 2) }, 17},
		{func() api.Errno { d.Crash([4]int{0, 0, 1}); return api.OK }, 19},
		{func() api.Errno { d.Fuse(0); return api.OK }, 19},
		{func() api.Errno { d.Crash(none()); return api.OK }, 19},
	} {
		is(t, c.call(), api.OK)
		if d.Left() != c.left {
			t.Errorf("%d are left, not %d", d.Left(), c.left)
		}
	}
}

func TestDisksShareNothing(t *testing.T) {
	a, b := made(t, 10), made(t, 10)
	is(t, a.Append(0, "abc"), api.OK)
	holds(t, b)
	is(t, b.Append(0, "xyz12"), api.OK)
	a.Fuse(0)
	is(t, a.Sync(0), api.ErrDown)
	is(t, b.Sync(0), api.OK)
	a.Crash(none())
	holds(t, a)
	holds(t, b, "xyz12")
}
