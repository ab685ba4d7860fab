package journal

import (
	"testing"

	"nostro/api"
	"nostro/disk"
)

// goneAt does a call with power for so many calls of the disk, and holds what the files are then, and, with those of
// their bytes that are sure alone, behind a crash.
func goneAt(t *testing.T, d *disk.Disk, fuse int, call func() api.Errno, want api.Errno, files, sure []string) {
	t.Helper()
	d.Fuse(fuse)
	is(t, call(), want)
	holds(t, d, files...)
	if want == api.OK {
		is(t, d.Sync(3), api.ErrDown) // just as many were needed
	}
	d.Crash([4]int{})
	holds(t, d, sure...)
}

// An Append lays the frame, and makes it sure: two calls of the disk.
func TestTheStepsOfAnAppend(t *testing.T) {
	was := []string{row(2, "b"), framed(1, "snap")}
	laid := []string{row(2, "b", "c"), framed(1, "snap")}
	for fuse, c := range []struct {
		want        api.Errno
		files, sure []string
	}{{api.ErrDown, was, was}, {api.ErrDown, laid, was}, {api.OK, laid, laid}} {
		d, j := with(t, 1000, []string{"a"}, []string{"b"})
		goneAt(t, d, fuse, func() api.Errno { return j.Append("c") }, c.want, c.files, c.sure)
		if c.want == api.OK {
			tells(t, j, "snap", 1, "b", "c")
		} else {
			tells(t, j, "snap", 1, "b")
			tells(t, opened(t, d), "snap", 1, "b")
		}
	}
}

// A Snap lays the snapshot, makes it sure, moves it, and empties the log: four calls of the disk.
func TestTheStepsOfASnap(t *testing.T) {
	log, old, next := row(2, "b", "c"), framed(1, "snap"), framed(3, "next")
	was := []string{log, old}
	for fuse, c := range []struct {
		want        api.Errno
		files, sure []string
	}{
		{api.ErrDown, was, was},
		{api.ErrDown, []string{log, old, next}, was},
		{api.ErrDown, []string{log, old, next}, []string{log, old, next}},
		{api.ErrDown, []string{log, next}, []string{log, next}},
		{api.OK, []string{"", next}, []string{"", next}},
	} {
		d, j := with(t, 1000, []string{"a"}, []string{"b", "c"})
		goneAt(t, d, fuse, func() api.Errno { return j.Snap("next") }, c.want, c.files, c.sure)
		if c.want == api.OK {
			tells(t, j, "next", 3)
		} else {
			tells(t, j, "snap", 1, "b", "c")
		}
		if fuse < 3 {
			tells(t, opened(t, d), "snap", 1, "b", "c")
			holds(t, d, was...)
		} else {
			tells(t, opened(t, d), "next", 3)
		}
	}
}

// The log is emptied also where it is empty; file 2 alone isn't where it is.
func TestTheStepsOfASnapOfNoRecords(t *testing.T) {
	for fuse := range 5 {
		d, j := with(t, 1000)
		want := api.ErrDown
		if fuse == 4 {
			want = api.OK
		}
		d.Fuse(fuse)
		is(t, j.Snap("s"), want)
		is(t, d.Sync(3), api.ErrDown)
	}
}

// What stands in file 2 ahead of a Snap is one call more, the first one.
func TestTheStepsOfASnapOverAnother(t *testing.T) {
	log, next := row(1, "a"), framed(1, "next")
	was := []string{log, "", "other"}
	for fuse, files := range [][]string{was, {log}, {log, "", next}, {log, "", next}, {log, next}, {"", next}} {
		d, j := with(t, 1000, []string{"a"})
		is(t, d.Append(2, "other"), api.OK)
		is(t, d.Sync(2), api.OK)
		want := api.ErrDown
		if fuse == 5 {
			want = api.OK
		}
		d.Fuse(fuse)
		is(t, j.Snap("next"), want)
		holds(t, d, files...)
		is(t, d.Sync(3), api.ErrDown)
	}
}

// isBroken holds that each call is ErrDown, or ErrMany ahead of it, and that the journal tells what it did.
func isBroken(t *testing.T, d *disk.Disk, j *Journal, text string, number int, records ...string) {
	t.Helper()
	files := make([]string, 4)
	for file := range files {
		files[file], _ = d.Read(file)
	}
	for range 2 {
		is(t, j.Append("more"), api.ErrDown)
		is(t, j.Append(""), api.ErrDown)
		is(t, j.Snap("more"), api.ErrDown)
		is(t, j.Snap(""), api.ErrDown)
		is(t, j.Append(mixed(Most)), api.ErrDown)
		is(t, j.Snap(mixed(Most)), api.ErrDown)
		is(t, j.Append(mixed(Most+1)), api.ErrMany)
		is(t, j.Snap(mixed(Most+1)), api.ErrMany)
		tells(t, j, text, number, records...)
	}
	holds(t, d, files...)
}

// Once broken it stays so, also with power again; no call of the disk is made for it.
func TestABrokenJournal(t *testing.T) {
	for fuse := range 4 {
		for _, snap := range []bool{false, true} {
			if !snap && fuse > 1 {
				continue
			}
			d, j := with(t, 1000, []string{"a"}, []string{"b"})
			d.Fuse(fuse)
			if snap {
				is(t, j.Snap("two"), api.ErrDown)
			} else {
				is(t, j.Append("c"), api.ErrDown)
			}
			isBroken(t, d, j, "snap", 1, "b")
			d.Crash([4]int{99, 99, 99, 99})
			isBroken(t, d, j, "snap", 1, "b")
			d.Fuse(1)
			isBroken(t, d, j, "snap", 1, "b")
			is(t, d.Sync(3), api.OK)
			is(t, d.Sync(3), api.ErrDown)
			d.Crash([4]int{})
			again := opened(t, d)
			is(t, again.Append("again"), api.OK)
			isBroken(t, d, j, "snap", 1, "b")
			if got := again.Last(); got != opened(t, d).Last() {
				t.Errorf("%d", got)
			}
		}
	}
}

// Who asks for what can't be laid doesn't learn by it whether there is power; where the disk is asked there is none
// ahead of no room.
func TestNoRoomAndNoPower(t *testing.T) {
	d, j := with(t, 40, []string{"a"})
	d.Fuse(2)
	is(t, j.Append(mixed(100)), api.ErrMany) // each burns once
	is(t, j.Snap(mixed(100)), api.ErrMany)
	is(t, j.Append(mixed(100)), api.ErrDown)
	isBroken(t, d, j, "", 0, "a")
	d.Crash([4]int{})
	isBroken(t, d, j, "", 0, "a")
	tells(t, opened(t, d), "", 0, "a")
}

// A crash between calls takes nothing, and doesn't break the journal.
func TestACrashBetweenCalls(t *testing.T) {
	d, j := with(t, 1000, []string{"a"})
	d.Crash([4]int{})
	is(t, j.Append("b"), api.OK)
	d.Crash([4]int{-1, -1, -1, -1})
	is(t, j.Snap("two"), api.OK)
	d.Crash([4]int{})
	is(t, j.Append("c"), api.OK)
	d.Crash([4]int{})
	tells(t, j, "two", 2, "c")
	tells(t, opened(t, d), "two", 2, "c")
}

// A journal that was opened without power breaks at its first call.
func TestAJournalOfADiskWithoutPower(t *testing.T) {
	for _, snap := range []bool{false, true} {
		d, _ := with(t, 1000, []string{"a"})
		d.Fuse(0)
		is(t, d.Sync(0), api.ErrDown)
		j := opened(t, d)
		tells(t, j, "", 0, "a")
		if snap {
			is(t, j.Snap("one"), api.ErrDown)
		} else {
			is(t, j.Append("b"), api.ErrDown)
		}
		isBroken(t, d, j, "", 0, "a")
		d.Crash([4]int{})
		isBroken(t, d, j, "", 0, "a")
	}
}
