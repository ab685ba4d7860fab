package journal

import (
	"slices"
	"strings"
	"testing"

	"nostro/api"
	"nostro/disk"
	"nostro/frame"
)

const roomy = 1 << 24

func made(t *testing.T, room int) *disk.Disk {
	t.Helper()
	d, err := disk.New(room)
	if err != api.OK {
		t.Fatalf("New(%d): %d", room, err)
	}
	return d
}

func opened(t *testing.T, d *disk.Disk) *Journal {
	t.Helper()
	j, err := Open(d)
	if err != api.OK || j == nil {
		t.Fatalf("Open: %v, %d", j, err)
	}
	return j
}

// with is a journal of some records behind a snapshot, if there are two lists, and its disk.
func with(t *testing.T, room int, lists ...[]string) (*disk.Disk, *Journal) {
	t.Helper()
	d := made(t, room)
	j := opened(t, d)
	for at, l := range lists {
		if at > 0 {
			is(t, j.Snap("snap"), api.OK)
		}
		for _, b := range l {
			is(t, j.Append(b), api.OK)
		}
	}
	return d, j
}

// is tells where a call answered another error.
func is(t *testing.T, got, want api.Errno) {
	t.Helper()
	if got != want {
		t.Errorf("%d, not %d", got, want)
	}
}

// tells holds all that a journal tells against what it is to tell.
func tells(t *testing.T, j *Journal, text string, number int, records ...string) {
	t.Helper()
	if got, at := j.Text(); got != text || at != number {
		t.Errorf("snapshot %.80q of %d, not %.80q of %d", got, at, text, number)
	}
	if got := j.Records(); !slices.Equal(got, records) {
		t.Errorf("%d records %.80q, not %d records %.80q", len(got), got, len(records), records)
	}
	if got := j.Last(); got != number+len(records) {
		t.Errorf("the last one is %d, not %d", got, number+len(records))
	}
}

// holds holds the disk's files against what they are to have, from file 0 on; those that aren't named have nothing.
func holds(t *testing.T, d *disk.Disk, want ...string) {
	t.Helper()
	for file := range 4 {
		one := ""
		if file < len(want) {
			one = want[file]
		}
		if got, err := d.Read(file); got != one || err != api.OK {
			t.Errorf("file %d: %.80x (%d bytes, %d), not %.80x (%d bytes)", file, got, len(got), err, one, len(one))
		}
	}
}

// number is a number's eight bytes, the highest first.
func number(n uint64) string {
	var b strings.Builder
	for at := 56; at >= 0; at -= 8 {
		b.WriteByte(byte(n >> at))
	}
	return b.String()
}

// framed is what is laid of a record, or of a snapshot's text, and a number.
func framed(n uint64, b string) string {
	s, _ := frame.Put(number(n) + b)
	return s
}

// row is the log of records, of which the first one has that number.
func row(first uint64, l ...string) string {
	s := ""
	for at, b := range l {
		s += framed(first+uint64(at), b)
	}
	return s
}

// mixed is so many bytes, of all kinds.
func mixed(count int) string {
	b := make([]byte, count)
	for at := range b {
		b[at] = byte(at*7 + at/256)
	}
	return string(b)
}

func TestMost(t *testing.T) {
	if Most != api.MostRecord-8 {
		t.Errorf("%d", Most)
	}
}

func TestTheExample(t *testing.T) {
	d, j := with(t, 100)
	tells(t, j, "", 0)
	is(t, j.Append("a"), api.OK)
	s, _ := frame.Put("\x00\x00\x00\x00\x00\x00\x00\x01a")
	holds(t, d, s)
}

func TestAppendKeepsRecordsInOrder(t *testing.T) {
	d, j := with(t, roomy)
	var l []string
	log := ""
	for at, b := range []string{"a", "", "\x00", "a", "\xff\xfe not a text", "ä", mixed(256), row(1, "looks", "like one"), mixed(Most - 1), mixed(Most)} {
		is(t, j.Append(b), api.OK)
		l = append(l, b)
		log += framed(uint64(at)+1, b)
		tells(t, j, "", 0, l...)
		holds(t, d, log)
	}
	tells(t, opened(t, d), "", 0, l...)
	// Each was made sure: a crash takes none.
	d.Crash([4]int{})
	holds(t, d, log)
	tells(t, opened(t, d), "", 0, l...)
}

func TestManyRecords(t *testing.T) {
	const count = 70000
	d, j := with(t, roomy)
	var l []string
	for n := range count {
		b := "even"
		if n%2 == 1 {
			b = "odd"
		}
		is(t, j.Append(b), api.OK)
		l = append(l, b)
	}
	tells(t, j, "", 0, l...)
	tells(t, opened(t, d), "", 0, l...)
	log, _ := d.Read(0)
	if !strings.HasPrefix(log, row(1, l[:300]...)) || !strings.HasSuffix(log, row(count-299, l[count-300:]...)) {
		t.Error("the first ones, or the last ones, aren't laid as told")
	}
	is(t, j.Snap("all"), api.OK)
	holds(t, d, "", framed(count, "all"))
}

func TestSnapTakesTheRecordsPlace(t *testing.T) {
	d, j := with(t, roomy, []string{"a", "b", "c"})
	is(t, j.Snap("three"), api.OK)
	tells(t, j, "three", 3)
	holds(t, d, "", framed(3, "three"))
	is(t, j.Append("d"), api.OK)
	tells(t, j, "three", 3, "d")
	holds(t, d, framed(4, "d"), framed(3, "three"))
	tells(t, opened(t, d), "three", 3, "d")
	is(t, j.Append(""), api.OK)
	is(t, j.Snap(""), api.OK)
	tells(t, j, "", 5)
	holds(t, d, "", framed(5, ""))
	tells(t, opened(t, d), "", 5)
	is(t, j.Snap(mixed(Most)), api.OK)
	tells(t, j, mixed(Most), 5)
	holds(t, d, "", framed(5, mixed(Most)))
	// All of it was made sure: a crash takes nothing, and what was emptied stays so.
	d.Crash([4]int{})
	holds(t, d, "", framed(5, mixed(Most)))
	tells(t, opened(t, d), mixed(Most), 5)
}

func TestSnapOfNoRecords(t *testing.T) {
	d, j := with(t, roomy)
	is(t, j.Snap("none yet"), api.OK)
	tells(t, j, "none yet", 0)
	holds(t, d, "", framed(0, "none yet"))
	j = opened(t, d)
	tells(t, j, "none yet", 0)
	is(t, j.Append("a"), api.OK)
	holds(t, d, framed(1, "a"), framed(0, "none yet"))
	tells(t, opened(t, d), "none yet", 0, "a")
}

func TestSnapsOneBehindTheOther(t *testing.T) {
	d, j := with(t, 1000)
	for n := 1; n <= 500; n++ {
		is(t, j.Append("one more"), api.OK)
		if n%3 == 0 {
			is(t, j.Snap("so far"), api.OK)
			holds(t, d, "", framed(uint64(n), "so far"))
		}
		if n%7 == 0 {
			j = opened(t, d)
		}
	}
	tells(t, j, "so far", 498, "one more", "one more")
}

func TestWhatIsTooLongChangesNothing(t *testing.T) {
	d, j := with(t, roomy, []string{"a"}, []string{"b"})
	d.Fuse(0)
	for _, count := range []int{Most + 1, Most + 2, Most + 8, Most + 9, 2 * Most, 1 << 20} {
		is(t, j.Append(mixed(count)), api.ErrMany)
		is(t, j.Snap(mixed(count)), api.ErrMany)
	}
	tells(t, j, "snap", 1, "b")
	holds(t, d, framed(2, "b"), framed(1, "snap"))
	// It isn't broken, and no call of the disk was needed.
	d.Fuse(-1)
	is(t, j.Append("c"), api.OK)
	tells(t, opened(t, d), "snap", 1, "b", "c")
}

// A disk without room for it answers ErrMany: nothing is changed, and the journal goes on.
func TestARecordForWhichThereIsNoRoom(t *testing.T) {
	// A record of n bytes needs 16 + n.
	d, j := with(t, 100, []string{"first"})
	for range 3 {
		is(t, j.Append(mixed(64)), api.ErrMany)
		tells(t, j, "", 0, "first")
		holds(t, d, framed(1, "first"))
	}
	is(t, j.Append(mixed(63)), api.OK)
	tells(t, j, "", 0, "first", mixed(63))
	is(t, j.Append(""), api.ErrMany)
	is(t, j.Append(mixed(Most)), api.ErrMany)
	tells(t, opened(t, d), "", 0, "first", mixed(63))
	d.Crash([4]int{})
	tells(t, opened(t, d), "", 0, "first", mixed(63))
}

func TestASnapshotForWhichThereIsNoRoom(t *testing.T) {
	d, j := with(t, 100, []string{"a"}, []string{"b", "c"}) // 20 and 34 bytes are laid, 46 are left
	for range 3 {
		is(t, j.Snap(mixed(31)), api.ErrMany)
		tells(t, j, "snap", 1, "b", "c")
		holds(t, d, row(2, "b", "c"), framed(1, "snap"))
	}
	is(t, j.Append("d"), api.OK) // 29 bytes are left
	is(t, j.Snap(mixed(14)), api.ErrMany)
	is(t, j.Snap(mixed(13)), api.OK)
	tells(t, j, mixed(13), 4)
	holds(t, d, "", framed(4, mixed(13)))
	tells(t, opened(t, d), mixed(13), 4)
}

func TestNoRoomAtAll(t *testing.T) {
	d, j := with(t, 0)
	is(t, j.Append(""), api.ErrMany)
	is(t, j.Snap(""), api.ErrMany)
	tells(t, j, "", 0)
	holds(t, d)
}

// What stands in file 2 makes room for the snapshot first.
func TestSnapEmptiesTheFileOnItsWay(t *testing.T) {
	d, j := with(t, 100, []string{"a"})
	is(t, d.Append(2, mixed(70)), api.OK)
	is(t, j.Snap("anew"), api.OK)
	tells(t, j, "anew", 1)
	holds(t, d, "", framed(1, "anew"))
}

func TestFileThreeIsNobodys(t *testing.T) {
	d := made(t, 1000)
	is(t, d.Append(3, "other"), api.OK)
	j := opened(t, d)
	is(t, j.Append("a"), api.OK)
	is(t, j.Snap("one"), api.OK)
	is(t, j.Append("b"), api.OK)
	tells(t, opened(t, d), "one", 1, "b")
	holds(t, d, framed(2, "b"), framed(1, "one"), "", "other")
}

func TestRecordsAreTheAskersOwn(t *testing.T) {
	_, j := with(t, 1000, []string{"a", "b"})
	first, second := j.Records(), j.Records()
	first[0] = "x"
	clear(first[:cap(first)])
	if !slices.Equal(second, []string{"a", "b"}) {
		t.Errorf("%q", second)
	}
	second = append(second[:1], "y")
	tells(t, j, "", 0, "a", "b")
	is(t, j.Append("c"), api.OK)
	is(t, j.Append("d"), api.OK)
	third := append(j.Records(), "z")
	is(t, j.Append("e"), api.OK)
	if third[4] != "z" || second[1] != "y" {
		t.Errorf("%q, %q", second, third)
	}
	tells(t, j, "", 0, "a", "b", "c", "d", "e")
}

func TestRecordsOfBefore(t *testing.T) {
	_, j := with(t, 1000, []string{"a", "b"})
	ahead := j.Records()
	is(t, j.Snap("two"), api.OK)
	is(t, j.Append("c"), api.OK)
	if !slices.Equal(ahead, []string{"a", "b"}) {
		t.Errorf("%q", ahead)
	}
	tells(t, j, "two", 2, "c")
}

// Journals of two disks have nothing in common.
func TestTwoJournals(t *testing.T) {
	_, a := with(t, 1000, []string{"a"})
	d, b := with(t, 1000, []string{"b"})
	is(t, a.Append("aa"), api.OK)
	is(t, b.Snap("bs"), api.OK)
	d.Fuse(0)
	is(t, b.Append("bb"), api.ErrDown)
	is(t, a.Append("aaa"), api.OK)
	tells(t, a, "", 0, "a", "aa", "aaa")
	tells(t, b, "bs", 1)
}
