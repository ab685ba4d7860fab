package journal

import (
	"slices"
	"strconv"
	"strings"
	"testing"

	"nostro/api"
	"nostro/disk"
)

// A step of a script is a record, or, where snap is told, a snapshot of what all records come to.
type step struct {
	snap bool
	b    string
}

// sumOf is a snapshot's text: it tells all records, so that one of others is found.
func sumOf(records []string) string {
	return strconv.Itoa(len(records)) + ": " + strings.Join(records, "|")
}

// known is what must be kept: all records, and of how many of them there is a snapshot (-1 if none was made).
type known struct {
	records []string
	snapped int
}

func (k known) text() (string, int) {
	if k.snapped < 0 {
		return "", 0
	}
	return sumOf(k.records[:k.snapped]), k.snapped
}

// kept tells whether a journal tells just what is known.
func (k known) kept(j *Journal) bool {
	wantText, wantNumber := k.text()
	text, number := j.Text()
	return text == wantText && number == wantNumber && j.Last() == len(k.records) && slices.Equal(j.Records(), k.records[number:])
}

// does does a step, and tells what is known then, and what else may be kept if the power went.
func (k known) does(j *Journal, s step) (done, perhaps known, err api.Errno) {
	perhaps = known{slices.Clone(k.records), k.snapped}
	if s.snap {
		perhaps.snapped = len(k.records)
		err = j.Snap(sumOf(k.records))
	} else {
		perhaps.records = append(perhaps.records, s.b)
		err = j.Append(s.b)
	}
	if err == api.OK {
		return perhaps, perhaps, err
	}
	return k, perhaps, err
}

// again opens what is there behind a crash, and tells what of the two is kept; the power may go on the way, too.
func again(t *testing.T, d *disk.Disk, fuse int, kept [4]int, k, perhaps known) (*Journal, known, bool) {
	t.Helper()
	d.Fuse(fuse)
	j, err := Open(d)
	for err == api.ErrDown {
		if j != nil {
			t.Errorf("a journal beside %d", err)
		}
		d.Crash(kept)
		j, err = Open(d)
	}
	if err != api.OK || j == nil {
		t.Errorf("%v, %d", j, err)
		return nil, k, false
	}
	d.Fuse(-1)
	if next, _ := d.Read(2); next != "" {
		t.Errorf("%x is on its way", next)
	}
	switch {
	case perhaps.kept(j):
		return j, perhaps, true
	case k.kept(j):
		return j, k, true
	}
	text, number := j.Text()
	t.Errorf("%q of %d, %q; not %v, nor %v", text, number, j.Records(), k, perhaps)
	return nil, k, false
}

// burnt tells for how many calls of the disk a script needs power.
func burnt(t *testing.T, script []step) int {
	t.Helper()
	const plenty = 1000
	d := made(t, 10000)
	d.Fuse(plenty)
	j, k := opened(t, d), known{snapped: -1}
	for _, s := range script {
		k, _, _ = k.does(j, s)
	}
	count := 0
	for d.Sync(3) == api.OK {
		count++
	}
	return plenty - count
}

// The power goes at each call of the disk, and all that isn't sure is kept in each way; the rest of the script goes on
// behind it.
func TestAPowerCutAtEachCall(t *testing.T) {
	script := []step{{b: "one"}, {b: ""}, {snap: true}, {b: "three"}, {snap: true}, {snap: true}, {b: "4"}, {b: "five"}, {b: "six, longer"}, {snap: true}, {b: "7"}}
	total := burnt(t, script)
	if total != 7*2+4*4 {
		t.Errorf("%d calls", total)
	}
	for fuse := range total {
		for kept := range 60 {
			for opening := range 3 {
				d := made(t, 10000)
				j, k := opened(t, d), known{snapped: -1}
				d.Fuse(fuse)
				for at := 0; at < len(script); at++ {
					done, perhaps, err := k.does(j, script[at])
					k = done
					if err == api.OK {
						continue
					}
					is(t, err, api.ErrDown)
					d.Crash([4]int{kept, kept, kept, kept})
					ok := false
					if j, k, ok = again(t, d, opening, [4]int{1, 1, 1, 1}, k, perhaps); !ok {
						return
					}
				}
				if !k.kept(opened(t, d)) || !k.kept(j) {
					t.Fatalf("fuse %d, %d kept: not %v", fuse, kept, k)
				}
			}
		}
	}
}

// chooser tells numbers that follow no plain pattern, the same each time.
type chooser uint64

func (c *chooser) below(n int) int {
	*c = *c*6364136223846793005 + 1442695040888963407
	return int(uint64(*c) >> 33 % uint64(n))
}

// The power goes again and again, and there is no room at times.
func TestLongScripts(t *testing.T) {
	c := chooser(6)
	for range 300 {
		room := []int{150, 400, 2000}[c.below(3)]
		d := made(t, room)
		j, k := opened(t, d), known{snapped: -1}
		for range 150 {
			if c.below(4) == 0 {
				d.Fuse(c.below(9))
			}
			done, perhaps, err := k.does(j, step{c.below(5) == 0, strings.Repeat("r", c.below(20)) + strconv.Itoa(c.below(100))})
			k = done
			switch {
			case err == api.OK || err == api.ErrMany:
				if !k.kept(j) {
					t.Fatalf("not %v", k)
				}
				continue
			case err != api.ErrDown:
				t.Fatalf("%d", err)
			}
			kept := [4]int{c.below(50) - 5, c.below(50), c.below(50), c.below(50)}
			d.Crash(kept)
			ok := false
			if j, k, ok = again(t, d, c.below(4)-1, kept, k, perhaps); !ok {
				return
			}
		}
	}
}

func TestTheSameCallsAnswerTheSame(t *testing.T) {
	c := chooser(8)
	for range 50 {
		a, b := made(t, 300), made(t, 300)
		j, k := opened(t, a), opened(t, b)
		for range 60 {
			text := strings.Repeat("s", c.below(40))
			first, second := j.Append(text), k.Append(text)
			if c.below(4) == 0 {
				first, second = j.Snap(text), k.Snap(text)
			}
			if first != second {
				t.Fatalf("%d, then %d", first, second)
			}
		}
		text, number := j.Text()
		tells(t, k, text, number, j.Records()...)
		for file := range 4 {
			first, _ := a.Read(file)
			if second, _ := b.Read(file); first != second {
				t.Fatalf("file %d: %q, then %q", file, first, second)
			}
		}
	}
}
