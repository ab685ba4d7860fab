package disk

import (
	"math"
	"testing"

	"nostro/api"
)

func TestTheExample(t *testing.T) {
	d := made(t, 100)
	is(t, d.Append(0, "xy"), api.OK)
	is(t, d.Sync(0), api.OK)
	is(t, d.Append(0, "z"), api.OK)
	d.Crash(none())
	holds(t, d, "xy")
}

// Of two sure bytes and three others as many are left as are kept: none below 0, no more than there are.
func TestCrashKeepsBeginnings(t *testing.T) {
	for _, c := range []struct{ kept, left int }{
		{0, 2}, {1, 3}, {2, 4}, {3, 5}, {4, 5}, {100, 5}, {1 << 32, 5}, {math.MaxInt, 5}, {math.MaxInt - 1, 5},
		{-1, 2}, {-2, 2}, {-3, 2}, {-100, 2}, {-1 << 32, 2}, {math.MinInt, 2}, {math.MinInt + 1, 2},
	} {
		for file := range 4 {
			d := made(t, 20)
			for each := range 4 {
				is(t, d.Append(each, "ab"), api.OK)
				is(t, d.Sync(each), api.OK)
				is(t, d.Append(each, "cde"), api.OK)
			}
			kept, want := none(), []string{"ab", "ab", "ab", "ab"}
			kept[file], want[file] = c.kept, "abcde"[:c.left]
			d.Crash(kept)
			holds(t, d, want...)
		}
	}
}

// What a crash leaves is sure: a further one takes nothing of it.
func TestWhatIsLeftIsSure(t *testing.T) {
	d := made(t, 20)
	is(t, d.Append(0, "abcde"), api.OK)
	is(t, d.Append(1, "fg"), api.OK)
	d.Crash([4]int{3, 1})
	d.Crash(none())
	d.Crash([4]int{-1, -1, -1, -1})
	holds(t, d, "abc", "f")
	is(t, d.Append(0, "xy"), api.OK)
	d.Crash(none())
	holds(t, d, "abc", "f")
}

func TestCrashOfWhatIsSure(t *testing.T) {
	for _, kept := range [][4]int{none(), all(), {-1, -1, -1, -1}, {1, 1, 1, 1}} {
		d := made(t, 20)
		for file, b := range []string{"ab", "", "c", "def"} {
			is(t, d.Append(file, b), api.OK)
			is(t, d.Sync(file), api.OK)
		}
		d.Crash(kept)
		holds(t, d, "ab", "", "c", "def")
	}
}

func TestCrashGivesRoomBack(t *testing.T) {
	d := made(t, 5)
	is(t, d.Append(0, "abcde"), api.OK)
	is(t, d.Append(1, "x"), api.ErrMany)
	d.Crash([4]int{2})
	is(t, d.Append(1, "xyz1"), api.ErrMany)
	is(t, d.Append(1, "xyz"), api.OK)
	holds(t, d, "ab", "xyz")
}

func TestCrashBringsPowerAndNoFuse(t *testing.T) {
	d := made(t, 10)
	d.Fuse(0)
	is(t, d.Sync(0), api.ErrDown)
	d.Crash(none())
	for range 100 {
		is(t, d.Sync(0), api.OK)
	}
	for n := range 3 {
		d.Fuse(n)
		d.Crash(none())
		for range 100 {
			is(t, d.Sync(0), api.OK)
		}
	}
	d.Fuse(1)
	is(t, d.Sync(0), api.OK)
	is(t, d.Sync(0), api.ErrDown)
	d.Fuse(7)
	d.Crash(none())
	for range 100 {
		is(t, d.Append(0, ""), api.OK)
	}
}

func TestCrashKeepsNothingOfWhatIsKept(t *testing.T) {
	d := made(t, 10)
	is(t, d.Append(0, "abc"), api.OK)
	kept := [4]int{2, 0, 0, 0}
	d.Crash(kept)
	if kept != [4]int{2, 0, 0, 0} {
		t.Errorf("%v", kept)
	}
	is(t, d.Append(0, "def"), api.OK)
	d.Crash(none())
	holds(t, d, "ab")
}
