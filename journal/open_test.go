package journal

import (
	"strings"
	"testing"

	"nostro/api"
	"nostro/disk"
	"nostro/frame"
)

const top = 1<<62 - 1 // the greatest number that is read

// laid is a disk whose files have that, all of it sure.
func laid(t *testing.T, files ...string) *disk.Disk {
	t.Helper()
	d := made(t, roomy)
	for file, b := range files {
		is(t, d.Append(file, b), api.OK)
		is(t, d.Sync(file), api.OK)
	}
	return d
}

// corrupt holds that Open tells ErrSum of files, and changes nothing, with power and without.
func corrupt(t *testing.T, what string, files ...string) {
	t.Helper()
	for _, fuse := range []int{-1, 0, 1} {
		d := laid(t, files...)
		d.Fuse(fuse)
		if j, err := Open(d); j != nil || err != api.ErrSum {
			t.Errorf("%s: %v, %d", what, j, err)
		}
		holds(t, d, files...)
	}
}

func TestOpenNoDisk(t *testing.T) {
	if j, err := Open(nil); j != nil || err != api.ErrArg {
		t.Errorf("%v, %d", j, err)
	}
}

func TestOpenAnEmptyDisk(t *testing.T) {
	for _, room := range []int{0, 1, 100, roomy} {
		d, j := with(t, room)
		tells(t, j, "", 0)
		holds(t, d)
	}
}

// Where nothing is to be cut no call of the disk burns: it opens without power.
func TestOpenOfWhatIsWholeNeedsNoPower(t *testing.T) {
	for _, files := range [][]string{{}, {row(1, "a", "b")}, {"", framed(7, "s")}, {row(8, "a"), framed(7, "s")}, {row(3, "a", "b"), framed(7, "s")}, {row(1, ""), "", "", "other"}} {
		for _, fuse := range []int{0, 1} {
			d := laid(t, files...)
			d.Fuse(fuse)
			opened(t, d)
			holds(t, d, files...)
			for range fuse {
				is(t, d.Sync(0), api.OK)
			}
			is(t, d.Sync(0), api.ErrDown)
			opened(t, d)
		}
	}
}

func TestOpenTellsRecordsBehindTheSnapshot(t *testing.T) {
	l := []string{"a", "", "c", "d"}
	for snapshot := range uint64(8) {
		for first := uint64(1); first <= snapshot+1; first++ {
			files := []string{row(first, l...), framed(snapshot, "s")}
			d := laid(t, files...)
			behind := l[min(uint64(len(l)), snapshot+1-first):]
			j := opened(t, d)
			tells(t, j, "s", int(snapshot), behind...)
			holds(t, d, files...)
			d = laid(t, "", files[1])
			tells(t, opened(t, d), "s", int(snapshot))
		}
		corrupt(t, "a number is left out", row(snapshot+2, l...), framed(snapshot, "s"))
		corrupt(t, "more are left out", row(snapshot+3, l...), framed(snapshot, "s"))
		corrupt(t, "a record 0", row(0, l...), framed(snapshot, "s"))
	}
	corrupt(t, "no record 1", row(2, l...))
	corrupt(t, "a record 0, no snapshot", row(0, l...))
}

// Where the snapshot's number is above all of the log's the next record has one more than the snapshot.
func TestTheLogOfWhatIsInTheSnapshot(t *testing.T) {
	d := laid(t, row(1, "a", "b"), framed(2, "two"))
	j := opened(t, d)
	is(t, j.Append("c"), api.OK)
	holds(t, d, row(1, "a", "b", "c"), framed(2, "two"))
	tells(t, opened(t, d), "two", 2, "c")
	is(t, j.Snap("three"), api.OK)
	holds(t, d, "", framed(3, "three"))
	d = laid(t, row(1, "a"), framed(9, "nine"))
	j = opened(t, d)
	tells(t, j, "nine", 9)
	is(t, j.Append("b"), api.OK)
	tells(t, j, "nine", 9, "b")
	holds(t, d, framed(1, "a")+framed(10, "b"), framed(9, "nine"))
}

func TestSnapshotsThatAreCorrupt(t *testing.T) {
	s := framed(3, "text")
	for cut := 1; cut < len(s); cut++ {
		corrupt(t, "a part", "", s[:cut])
	}
	for at := range len(s) {
		for _, bit := range []byte{1, 0x10, 0x80} {
			turned := []byte(s)
			turned[at] ^= bit
			corrupt(t, "a byte turned", row(4, "d"), string(turned))
		}
	}
	for what, file := range map[string]string{
		"one byte more":            s + "x",
		"a torn frame behind":      s + s[:10],
		"two frames":               s + s,
		"another one behind":       s + framed(4, "more"),
		"a bad one behind":         s + "\xff\xff\xff\xff\xff\xff\xff\xff",
		"no bytes in it":           shortFrame(""),
		"one byte in it":           shortFrame("x"),
		"seven bytes in it":        shortFrame("\x00\x00\x00\x00\x00\x00\x00"),
		"no frame":                 "x",
		"zeros":                    strings.Repeat("\x00", 8),
		"the number 2^62":          framed(top+1, "s"),
		"the number 2^62 + 1":      framed(top+2, "s"),
		"the number 2^63 - 1":      framed(1<<63-1, "s"),
		"the number 2^63":          framed(1<<63, "s"),
		"the number 2^64 - 1":      framed(1<<64-1, "s"),
		"the number 2^63 + 5":      framed(1<<63+5, "s"),
		"the number 2^62, no text": framed(top+1, ""),
	} {
		corrupt(t, what, "", file)
		corrupt(t, what, row(1, "a"), file, "on its way")
	}
}

// shortFrame is the frame of bytes that needn't be a number's.
func shortFrame(b string) string {
	s, _ := frame.Put(b)
	return s
}

func TestGreatNumbers(t *testing.T) {
	for _, n := range []uint64{1, 255, 256, 0x0102030405060708, 1 << 61, top - 1} {
		files := []string{row(n, "a", "b"), framed(n, "s")}
		d := laid(t, files...)
		j := opened(t, d)
		tells(t, j, "s", int(n), "b")
		is(t, j.Snap("t"), api.OK)
		holds(t, d, "", framed(n+1, "t"))
	}
	d := laid(t, row(top-2, "a", "b", "c"), framed(top-3, "s"))
	tells(t, opened(t, d), "s", top-3, "a", "b", "c")
	tells(t, opened(t, laid(t, row(top, "a"), framed(top, "s"))), "s", top)
	tells(t, opened(t, laid(t, row(1, "a"), framed(top, ""))), "", top)
	corrupt(t, "a record 2^62", row(top, "a", "b"), framed(top-1, "s"))
	corrupt(t, "a first record 2^62", row(top+1, "a"), framed(top, "s"))
	corrupt(t, "a first record 2^63", row(1<<63, "a"))
	corrupt(t, "a first record 2^64 - 1", row(1<<64-1, "a"), framed(5, "s"))
	corrupt(t, "a first record 2^63 + 1", row(1<<63+1, "a"))
	corrupt(t, "a second record 2^63 + 2", framed(1, "a")+framed(1<<63+2, "b"))
}

func TestLogsThatAreCorrupt(t *testing.T) {
	a, b, c := framed(1, "a"), framed(2, "b"), framed(3, "c")
	for what, log := range map[string]string{
		"twice the same":            a + a,
		"twice the second":          a + b + b,
		"one left out":              a + c,
		"one left out, further on":  a + b + framed(4, "d"),
		"down again":                a + b + a,
		"the wrong way":             b + a,
		"no record 1":               b + c,
		"no record 1 and 2":         c,
		"a record 0":                framed(0, "z") + a + b,
		"a record 0 alone":          framed(0, "z"),
		"no bytes in one":           a + shortFrame(""),
		"seven bytes in one":        a + b + shortFrame("\x00\x00\x00\x00\x00\x00\x03"),
		"seven bytes in the first":  shortFrame("\x00\x00\x00\x00\x00\x00\x01") + b,
		"one byte in the first":     shortFrame("x"),
		"a length too great behind": a + "\x00\x01\x00\x01\x00\x00\x00\x00",
		"all ones behind":           a + b + "\xff\xff\xff\xff\xff\xff\xff\xff",
		"zeros behind, and more":    a + "\x00\x00\x00\x00\x00\x00\x00\x01" + b,
		"down, and torn":            a + a + c[:5],
		"short, and torn":           a + shortFrame("") + c[:12],
	} {
		corrupt(t, what, log)
		corrupt(t, what, log, "", "on its way")
		corrupt(t, what, log, framed(0, "s"))
	}
	corrupt(t, "one left out of what is in the snapshot", a+c, framed(9, "s"))
	corrupt(t, "twice the same of what is in the snapshot", b+b, framed(9, "s"))
	corrupt(t, "a gap just where the snapshot ends", a+b+framed(5, "e"), framed(4, "s"))
	corrupt(t, "a short one in what is in the snapshot", a+shortFrame("x"), framed(9, "s"))
}

// A byte of a record that isn't the last one is turned, or of its number or check.
func TestAnEarlyRecordTurned(t *testing.T) {
	first := framed(1, "some record")
	for _, behind := range []string{framed(2, ""), row(2, "b", "c"), framed(2, "b") + "torn", "x"} {
		for at := 4; at < len(first); at++ {
			for bit := range 8 {
				turned := []byte(first)
				turned[at] ^= 1 << bit
				corrupt(t, "turned", string(turned)+behind)
				corrupt(t, "turned", string(turned)+behind, framed(5, "s"))
			}
		}
	}
}

// What is behind the log's frames, and torn, is cut off; what stands in file 2 is, too; each needs power.
func TestOpenCutsWhatWasOnItsWay(t *testing.T) {
	b := framed(3, mixed(300))
	wrong := b[:len(b)-1] + "!"
	for _, tail := range []string{"", "x", b[:1], b[:7], b[:8], b[:15], b[:16], b[:len(b)-1], wrong, "\x00\x00\x00\x01\x00\x00\x00\x00\x00"} {
		for _, next := range []string{"", "x", framed(2, "two"), mixed(1000)} {
			for _, snap := range []string{"", framed(0, ""), framed(2, "ab"), framed(1, "a")} {
				torn(t, row(1, "a", "b"), tail, snap, next)
			}
			torn(t, "", tail, framed(2, "ab"), next)
			torn(t, "", tail, "", next)
		}
	}
}

// torn opens a disk with a torn log and something on its way, with power, and with a fuse that lasts for fewer calls
// than it needs, or for just as many.
func torn(t *testing.T, log, tail, snap, next string) {
	t.Helper()
	was := []string{log + tail, snap, next, "other"}
	behind := [][]string{was} // what the files are behind each call of the disk
	if tail != "" {
		behind = append(behind, []string{log, snap, next, "other"})
	}
	if next != "" {
		behind = append(behind, []string{log, snap, "", "other"})
	}
	needed := len(behind) - 1
	want := opened(t, laid(t, log, snap))
	text, number := want.Text()
	for fuse := -1; fuse <= needed+1; fuse++ {
		d := laid(t, was...)
		d.Fuse(fuse)
		j, err := Open(d)
		if fuse >= 0 && fuse < needed {
			if j != nil || err != api.ErrDown {
				t.Errorf("fuse %d: %v, %d", fuse, j, err)
			}
			holds(t, d, behind[fuse]...)
			d.Crash([4]int{})
			holds(t, d, behind[fuse]...)
			j, err = Open(d)
		}
		if j == nil || err != api.OK {
			t.Fatalf("fuse %d: %v, %d", fuse, j, err)
		}
		holds(t, d, behind[needed]...)
		tells(t, j, text, number, want.Records()...)
		if fuse == needed {
			is(t, d.Sync(0), api.ErrDown)
		}
		if fuse == needed+1 {
			is(t, d.Sync(0), api.OK)
			is(t, d.Sync(0), api.ErrDown)
		}
	}
}

// Behind a torn one the next record has the torn one's number.
func TestGoingOnBehindATornOne(t *testing.T) {
	d := laid(t, row(1, "a", "b")[:30])
	j := opened(t, d)
	tells(t, j, "", 0, "a")
	is(t, j.Append("again"), api.OK)
	holds(t, d, row(1, "a", "again"))
	tells(t, opened(t, d), "", 0, "a", "again")
}

// The bytes of what Open tells are those of the longest record, and of the longest snapshot.
func TestOpenOfTheLongest(t *testing.T) {
	d := laid(t, row(4, mixed(Most), "", mixed(Most)), framed(3, mixed(Most)))
	tells(t, opened(t, d), mixed(Most), 3, mixed(Most), "", mixed(Most))
}

func TestOpenTheSameTwice(t *testing.T) {
	d := laid(t, row(1, "a", "b")+"torn", framed(1, "s"), "on its way")
	a, b := opened(t, d), opened(t, d)
	tells(t, a, "s", 1, "b")
	tells(t, b, "s", 1, "b")
}
