package disk

import (
	"math"
	"strings"
	"testing"

	"nostro/api"
)

// model is the document's disk, word by word: of each file two texts, what is sure and what comes behind it.
type model struct {
	room          int
	sure, behind  [4]string
	powerless     bool
	fused         bool
	callsTillGone int
}

func (m *model) whole(file int) string { return m.sure[file] + m.behind[file] }

func (m *model) left() int {
	left := m.room
	for file := range 4 {
		left -= len(m.whole(file))
	}
	return left
}

func (m *model) burns() api.Errno {
	if m.powerless || m.fused && m.callsTillGone == 0 {
		m.powerless = true
		return api.ErrDown
	}
	if m.fused {
		m.callsTillGone--
	}
	return api.OK
}

// call is one of a disk's calls, with what it is given.
type call struct {
	name     string
	file, to int
	b        string
	kept     [4]int
}

func (m *model) does(c call) api.Errno {
	there := c.file >= 0 && c.file <= 3
	switch c.name {
	case "fuse":
		m.fused, m.callsTillGone = c.to >= 0, c.to
		return api.OK
	case "crash":
		for file := range 4 {
			kept := c.kept[file]
			if kept < 0 {
				kept = 0
			}
			if kept > len(m.behind[file]) {
				kept = len(m.behind[file])
			}
			m.sure[file], m.behind[file] = m.sure[file]+m.behind[file][:kept], ""
		}
		m.powerless, m.fused = false, false
		return api.OK
	case "read":
		if !there {
			return api.ErrArg
		}
		return api.OK
	}
	if !there || c.name == "move" && (c.to < 0 || c.to > 3) {
		return api.ErrArg
	}
	if c.name == "cut" && (c.to < 0 || c.to > len(m.whole(c.file))) {
		return api.ErrArg
	}
	if err := m.burns(); err != api.OK {
		return err
	}
	switch c.name {
	case "append":
		if len(c.b) > m.left() {
			return api.ErrMany
		}
		m.behind[c.file] += c.b
	case "sync":
		m.sure[c.file], m.behind[c.file] = m.whole(c.file), ""
	case "cut":
		if c.to <= len(m.sure[c.file]) {
			m.sure[c.file], m.behind[c.file] = m.sure[c.file][:c.to], ""
		} else {
			m.behind[c.file] = m.behind[c.file][:c.to-len(m.sure[c.file])]
		}
	case "move":
		if c.to != c.file {
			m.sure[c.to], m.behind[c.to] = m.sure[c.file], m.behind[c.file]
			m.sure[c.file], m.behind[c.file] = "", ""
		}
	}
	return api.OK
}

func does(d *Disk, c call) api.Errno {
	switch c.name {
	case "append":
		return d.Append(c.file, c.b)
	case "sync":
		return d.Sync(c.file)
	case "cut":
		return d.Cut(c.file, c.to)
	case "move":
		return d.Move(c.file, c.to)
	case "fuse":
		d.Fuse(c.to)
	case "crash":
		d.Crash(c.kept)
	case "read":
		_, err := d.Read(c.file)
		return err
	}
	return api.OK
}

// alike does a script on a disk and on the model, and tells whether all answers and files are the same.
func alike(t *testing.T, room int, script []call) bool {
	t.Helper()
	d, m := made(t, room), &model{room: room}
	for i, c := range script {
		got, want := does(d, c), m.does(c)
		if got != want || d.Left() != m.left() {
			t.Errorf("room %d, %v, call %d: %d, %d left, not %d, %d left", room, script, i, got, d.Left(), want, m.left())
			return false
		}
		for file := range 4 {
			if b, err := d.Read(file); b != m.whole(file) || err != api.OK {
				t.Errorf("room %d, %v, call %d: file %d: %q (%d), not %q", room, script, i, file, b, err, m.whole(file))
				return false
			}
		}
	}
	return true
}

// Each row of four calls of a few kinds, behind a beginning, and a crash behind it that tells what is sure.
func TestAllShortScripts(t *testing.T) {
	calls := []call{
		{name: "append", file: 0, b: "xy"}, {name: "append", file: 1, b: "z"}, {name: "append", file: 0},
		{name: "sync", file: 0}, {name: "sync", file: 1},
		{name: "cut", file: 0, to: 1}, {name: "cut", file: 0, to: 3}, {name: "cut", file: 1},
		{name: "move", file: 0, to: 1}, {name: "move", file: 1, to: 0}, {name: "move", file: 0, to: 0},
		{name: "fuse", to: -1}, {name: "fuse", to: 0}, {name: "fuse", to: 1},
		{name: "crash"}, {name: "crash", kept: [4]int{1, -1}}, {name: "crash", kept: [4]int{-1, 5}},
	}
	for _, a := range calls {
		for _, b := range calls {
			for _, c := range calls {
				for _, e := range calls {
					script := []call{{name: "append", file: 0, b: "abc"}, {name: "sync", file: 0}, {name: "append", file: 0, b: "d"},
						a, b, c, e, {name: "crash"}}
					if !alike(t, 7, script) {
						return
					}
				}
			}
		}
	}
}

// chooser tells numbers that follow no plain pattern, the same each time.
type chooser uint64

func (c *chooser) below(n int) int {
	*c = *c*6364136223846793005 + 1442695040888963407
	return int(uint64(*c) >> 33 % uint64(n))
}

func (c *chooser) of(l ...int) int { return l[c.below(len(l))] }

func (c *chooser) bytes() string {
	return allBytes()[c.below(250):][:c.below(6)]
}

// script is a long row of calls of all kinds, wrong ones among them.
func (c *chooser) script(length int) []call {
	file := func() int { return c.of(0, 1, 2, 3, 0, 1, 2, 3, 0, 1, 2, 3, -1, 4, math.MaxInt) }
	var script []call
	for range length {
		one := call{name: "append", file: file(), b: c.bytes()}
		switch c.below(14) {
		case 0:
			one = call{name: "append", file: file(), b: strings.Repeat("#", c.below(60))}
		case 1, 2, 3:
			one = call{name: "sync", file: file()}
		case 4, 5:
			one = call{name: "cut", file: file(), to: c.of(0, 1, 2, 5, 9, -1, math.MaxInt)}
		case 6:
			one = call{name: "move", file: file(), to: file()}
		case 7:
			one = call{name: "fuse", to: c.of(-1, 0, 1, 3, 9, math.MinInt, math.MaxInt)}
		case 8:
			one = call{name: "crash"}
			for at := range one.kept {
				one.kept[at] = c.of(-1, 0, 1, 2, 3, 7, math.MinInt, math.MaxInt)
			}
		case 9:
			one = call{name: "read", file: file()}
		}
		script = append(script, one)
	}
	return script
}

func TestLongScripts(t *testing.T) {
	c := chooser(5)
	for range 400 {
		if !alike(t, c.of(0, 3, 20, 60, 300), c.script(300)) {
			return
		}
	}
}

// Behind each crash what is sure is there, and what is there is a beginning of what was; what is sure is what a crash
// leaves that keeps none.
func TestWhatIsThereBehindACrash(t *testing.T) {
	c := chooser(7)
	run := func(script []call) *Disk {
		d := made(t, 80)
		for _, one := range script {
			does(d, one)
		}
		return d
	}
	for range 300 {
		script := c.script(c.below(60))
		ahead, bare, kept, whole := run(script), run(script), run(script), run(script)
		bare.Crash(none())
		kept.Crash([4]int{c.below(8), c.below(8), c.below(8), c.below(8)})
		whole.Crash(all())
		for file := range 4 {
			was, _ := ahead.Read(file)
			sure, _ := bare.Read(file)
			is, _ := kept.Read(file)
			most, _ := whole.Read(file)
			if !strings.HasPrefix(was, is) || !strings.HasPrefix(is, sure) || most != was {
				t.Fatalf("%v: file %d: %q was, %q is sure, %q is, %q at the most", script, file, was, sure, is, most)
			}
		}
	}
}

// Once made sure, what a file has is there behind each crash, till it is cut or moved.
func TestWhatIsMadeSureStays(t *testing.T) {
	c := chooser(9)
	for range 300 {
		d := made(t, 200)
		for _, one := range c.script(c.below(40)) {
			does(d, one)
		}
		file := c.below(4)
		if d.Sync(file) != api.OK {
			continue
		}
		sure, _ := d.Read(file)
		for _, one := range c.script(60) {
			if one.name != "cut" && one.name != "move" {
				does(d, one)
			}
		}
		if is, _ := d.Read(file); !strings.HasPrefix(is, sure) {
			t.Fatalf("%q was sure, %q is there", sure, is)
		}
	}
}

func TestTheSameCallsAnswerTheSame(t *testing.T) {
	c := chooser(11)
	for range 50 {
		script := c.script(200)
		a, b := made(t, 60), made(t, 60)
		for _, one := range script {
			if first, second := does(a, one), does(b, one); first != second {
				t.Fatalf("%v: %d, then %d", one, first, second)
			}
		}
		for file := range 4 {
			first, _ := a.Read(file)
			if second, _ := b.Read(file); first != second {
				t.Fatalf("file %d: %q, then %q", file, first, second)
			}
		}
	}
}
