package disk

import (
	"math"
	"strings"
	"testing"

	"nostro/api"
)

func TestAppend(t *testing.T) {
	d := made(t, 300)
	is(t, d.Append(0, "ab"), api.OK)
	is(t, d.Append(0, ""), api.OK)
	is(t, d.Append(0, "c"), api.OK)
	is(t, d.Append(3, allBytes()), api.OK)
	is(t, d.Append(2, "\xff"), api.OK)
	is(t, d.Append(0, "\x00d"), api.OK)
	holds(t, d, "abc\x00d", "", "\xff", allBytes())
}

func TestAppendIsNotSure(t *testing.T) {
	d := made(t, 20)
	is(t, d.Append(0, "abc"), api.OK)
	is(t, d.Sync(0), api.OK)
	is(t, d.Append(0, "de"), api.OK)
	is(t, d.Append(1, "f"), api.OK)
	d.Crash(none())
	holds(t, d, "abc")
}

func TestAppendOfMoreThanIsLeft(t *testing.T) {
	d := made(t, 10)
	is(t, d.Append(0, "abcdefg"), api.OK)
	for file := range 4 {
		is(t, d.Append(file, "1234"), api.ErrMany)
		is(t, d.Append(file, strings.Repeat("x", 1000)), api.ErrMany)
	}
	holds(t, d, "abcdefg")
	is(t, d.Append(1, "123"), api.OK)
	is(t, d.Append(2, "x"), api.ErrMany)
	is(t, d.Append(2, ""), api.OK)
	holds(t, d, "abcdefg", "123")
	is(t, d.Cut(0, 6), api.OK)
	is(t, d.Append(2, "xy"), api.ErrMany)
	is(t, d.Append(2, "x"), api.OK)
	holds(t, d, "abcdef", "123", "x")
}

func TestADiskWithoutRoom(t *testing.T) {
	d := made(t, 0)
	is(t, d.Append(0, ""), api.OK)
	is(t, d.Append(0, "x"), api.ErrMany)
	is(t, d.Sync(0), api.OK)
	is(t, d.Cut(0, 0), api.OK)
	is(t, d.Cut(0, 1), api.ErrArg)
	is(t, d.Move(0, 1), api.OK)
	d.Crash(all())
	holds(t, d)
}

func TestTheGreatestDisk(t *testing.T) {
	const room = 1 << 24
	d := made(t, room)
	long := strings.Repeat("x", room)
	is(t, d.Append(0, long+"x"), api.ErrMany)
	is(t, d.Append(0, long), api.OK)
	is(t, d.Append(0, "x"), api.ErrMany)
	holds(t, d, long)
	is(t, d.Cut(0, room-1), api.OK)
	is(t, d.Append(3, "y"), api.OK)
	holds(t, d, long[1:], "", "", "y")
}

// What is laid piece by piece is not gone over again at each piece: else this would not end.
func TestAppendOfManyPieces(t *testing.T) {
	const room = 1 << 22
	d := made(t, room)
	for i := range room / 2 {
		if d.Append(0, "x") != api.OK || d.Append(1+i%3, "y") != api.OK {
			t.Fatal("a piece isn't laid")
		}
	}
	is(t, d.Append(0, "x"), api.ErrMany)
	got, _ := d.Read(0)
	if got != strings.Repeat("x", room/2) {
		t.Errorf("%d bytes", len(got))
	}
}

func TestSync(t *testing.T) {
	d := made(t, 20)
	is(t, d.Append(0, "ab"), api.OK)
	is(t, d.Append(1, "cd"), api.OK)
	is(t, d.Append(0, "e"), api.OK)
	is(t, d.Sync(0), api.OK)
	is(t, d.Sync(2), api.OK)
	holds(t, d, "abe", "cd")
	d.Crash(none())
	holds(t, d, "abe")
}

func TestSyncOfAllFiles(t *testing.T) {
	for file := range 4 {
		d := made(t, 20)
		for each := range 4 {
			is(t, d.Append(each, "ab"), api.OK)
		}
		is(t, d.Sync(file), api.OK)
		is(t, d.Append(file, "c"), api.OK)
		d.Crash(none())
		want := make([]string, 4)
		want[file] = "ab"
		holds(t, d, want...)
	}
}

func TestCut(t *testing.T) {
	for n := range 6 {
		d := made(t, 20)
		is(t, d.Append(1, "abcde"), api.OK)
		is(t, d.Append(2, "fgh"), api.OK)
		is(t, d.Cut(1, n), api.OK)
		holds(t, d, "", "abcde"[:n], "fgh")
	}
	d := made(t, 20)
	is(t, d.Append(1, "abcde"), api.OK)
	for _, n := range []int{-1, 6, 7, math.MinInt, math.MaxInt} {
		is(t, d.Cut(1, n), api.ErrArg)
		holds(t, d, "", "abcde")
	}
	is(t, d.Cut(0, 1), api.ErrArg)
	is(t, d.Cut(0, 0), api.OK)
	holds(t, d, "", "abcde")
}

// Of what a cut leaves as many bytes are sure as were: no more, even if less than all was sure.
func TestCutLeavesWhatIsSure(t *testing.T) {
	for sure := range 6 {
		for n := range 6 {
			d := made(t, 20)
			is(t, d.Append(0, "abcde"[:sure]), api.OK)
			is(t, d.Sync(0), api.OK)
			is(t, d.Append(0, "abcde"[sure:]), api.OK)
			is(t, d.Cut(0, n), api.OK)
			is(t, d.Append(0, "xy"), api.OK)
			holds(t, d, "abcde"[:n]+"xy")
			d.Crash(none())
			holds(t, d, "abcde"[:min(sure, n)])
		}
	}
}

func TestMove(t *testing.T) {
	for from := range 4 {
		for to := range 4 {
			d := made(t, 12)
			want := []string{"a", "bc", "", "def"}
			for file, b := range want {
				is(t, d.Append(file, b), api.OK)
			}
			is(t, d.Move(from, to), api.OK)
			if from != to {
				want[to], want[from] = want[from], ""
			}
			holds(t, d, want...)
			is(t, d.Append(from, "12"), api.OK)
			want[from] += "12"
			is(t, d.Append(to, "3"), api.OK)
			want[to] += "3"
			holds(t, d, want...)
		}
	}
}

// What is moved is as sure as it was, whatever was sure of what it stands in place of.
func TestMoveTakesWhatIsSure(t *testing.T) {
	for sure := range 4 {
		for there := range 6 {
			d := made(t, 20)
			is(t, d.Append(2, "abc"[:sure]), api.OK)
			is(t, d.Sync(2), api.OK)
			is(t, d.Append(2, "abc"[sure:]), api.OK)
			is(t, d.Append(1, "12345"[:there]), api.OK)
			is(t, d.Sync(1), api.OK)
			is(t, d.Append(1, "12345"[there:]), api.OK)
			is(t, d.Move(2, 1), api.OK)
			is(t, d.Append(2, "xyz"), api.OK)
			holds(t, d, "", "abc", "xyz")
			d.Crash(none())
			holds(t, d, "", "abc"[:sure])
		}
	}
}

func TestMoveToItself(t *testing.T) {
	for sure := range 4 {
		d := made(t, 20)
		is(t, d.Append(3, "abc"[:sure]), api.OK)
		is(t, d.Sync(3), api.OK)
		is(t, d.Append(3, "abc"[sure:]), api.OK)
		is(t, d.Move(3, 3), api.OK)
		holds(t, d, "", "", "", "abc")
		d.Crash(none())
		holds(t, d, "", "", "", "abc"[:sure])
	}
}

// A file that is empty is moved as well: the other one has nothing then.
func TestMoveOfNothing(t *testing.T) {
	d := made(t, 20)
	is(t, d.Append(1, "abc"), api.OK)
	is(t, d.Sync(1), api.OK)
	is(t, d.Move(0, 1), api.OK)
	holds(t, d)
	is(t, d.Append(1, "de"), api.OK)
	d.Crash(none())
	holds(t, d)
}

func TestFilesThatAreNotThere(t *testing.T) {
	d := made(t, 20)
	is(t, d.Append(0, "abc"), api.OK)
	for _, file := range noFiles() {
		is(t, d.Append(file, ""), api.ErrArg)
		is(t, d.Append(file, strings.Repeat("x", 100)), api.ErrArg)
		is(t, d.Sync(file), api.ErrArg)
		is(t, d.Cut(file, 0), api.ErrArg)
		is(t, d.Move(file, 0), api.ErrArg)
		is(t, d.Move(0, file), api.ErrArg)
		is(t, d.Move(file, file), api.ErrArg)
	}
	holds(t, d, "abc")
}
