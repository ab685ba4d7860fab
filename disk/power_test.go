package disk

import (
	"math"
	"strings"
	"testing"

	"nostro/api"
)

// burning are calls that need power, and answer OK with it, of a disk that has file 0's 3 bytes.
func burning(d *Disk) []func() api.Errno {
	return []func() api.Errno{
		func() api.Errno { return d.Append(0, "") },
		func() api.Errno { return d.Append(0, "de") },
		func() api.Errno { return d.Sync(0) },
		func() api.Errno { return d.Sync(1) },
		func() api.Errno { return d.Cut(0, 1) },
		func() api.Errno { return d.Cut(0, 0) },
		func() api.Errno { return d.Cut(1, 0) },
		func() api.Errno { return d.Move(0, 1) },
		func() api.Errno { return d.Move(1, 2) },
		func() api.Errno { return d.Move(0, 0) },
	}
}

// idle are calls that don't burn, with the error that each answers, with power and without.
func idle(d *Disk) []struct {
	call func() api.Errno
	want api.Errno
} {
	return []struct {
		call func() api.Errno
		want api.Errno
	}{
		{func() api.Errno { return d.Append(4, "") }, api.ErrArg},
		{func() api.Errno { return d.Append(-1, strings.Repeat("x", 100)) }, api.ErrArg},
		{func() api.Errno { return d.Sync(4) }, api.ErrArg},
		{func() api.Errno { return d.Sync(-1) }, api.ErrArg},
		{func() api.Errno { return d.Cut(4, 0) }, api.ErrArg},
		{func() api.Errno { return d.Cut(0, 1000) }, api.ErrArg},
		{func() api.Errno { return d.Cut(0, -1) }, api.ErrArg},
		{func() api.Errno { return d.Move(4, 0) }, api.ErrArg},
		{func() api.Errno { return d.Move(0, -1) }, api.ErrArg},
		{func() api.Errno { _, err := d.Read(0); return err }, api.OK},
		{func() api.Errno { _, err := d.Read(4); return err }, api.ErrArg},
		{func() api.Errno { d.Left(); return api.OK }, api.OK},
	}
}

// three is a disk whose file 0 has 3 bytes, 1 of which is sure.
func three(t *testing.T) *Disk {
	t.Helper()
	d := made(t, 10)
	is(t, d.Append(0, "a"), api.OK)
	is(t, d.Sync(0), api.OK)
	is(t, d.Append(0, "bc"), api.OK)
	return d
}

func TestTheFuseBurnsByEachCall(t *testing.T) {
	for n := range 5 {
		for i := range burning(three(t)) {
			d := three(t)
			d.Fuse(n)
			for range n {
				is(t, d.Sync(3), api.OK)
			}
			is(t, burning(d)[i](), api.ErrDown)
			holds(t, d, "abc")
			d.Crash(none())
			holds(t, d, "a")
			d = three(t)
			d.Fuse(n + 1)
			for range n {
				is(t, d.Sync(3), api.OK)
			}
			is(t, burning(d)[i](), api.OK)
			is(t, d.Sync(3), api.ErrDown)
		}
	}
}

// Without power there is none till the crash, whatever the fuse is then; nothing is changed.
func TestThereIsNoPowerAnyMore(t *testing.T) {
	for _, n := range []int{0, 1, 5, -1, math.MaxInt, math.MinInt} {
		d := three(t)
		d.Fuse(0)
		is(t, d.Sync(0), api.ErrDown)
		d.Fuse(n)
		for range 3 {
			for _, call := range burning(d) {
				is(t, call(), api.ErrDown)
			}
		}
		holds(t, d, "abc")
		d.Crash(none())
		holds(t, d, "a")
	}
}

// A fuse of 0 isn't yet without power: a longer one, or none, set in time, lets it go on.
func TestAFuseIsSetAgainInTime(t *testing.T) {
	d := made(t, 10)
	d.Fuse(0)
	d.Fuse(1)
	is(t, d.Append(0, "a"), api.OK)
	d.Fuse(2)
	is(t, d.Append(0, "b"), api.OK)
	is(t, d.Append(0, "c"), api.OK)
	d.Fuse(-1)
	for range 100 {
		is(t, d.Append(0, ""), api.OK)
	}
	d.Fuse(0)
	is(t, d.Append(0, ""), api.ErrDown)
	holds(t, d, "abc")
}

func TestNoFuse(t *testing.T) {
	for _, n := range []int{-1, -2, -1000, math.MinInt} {
		d := made(t, 10)
		d.Fuse(1)
		d.Fuse(n)
		for range 100 {
			is(t, d.Sync(0), api.OK)
		}
	}
}

func TestALongFuse(t *testing.T) {
	for _, n := range []int{1000, 1 << 40, math.MaxInt} {
		d := made(t, 10)
		d.Fuse(n)
		for range 1000 {
			is(t, d.Sync(0), api.OK)
		}
		want := api.OK
		if n == 1000 {
			want = api.ErrDown
		}
		is(t, d.Sync(0), want)
	}
}

func TestAnAppendThatIsTooLongBurns(t *testing.T) {
	d := made(t, 5)
	d.Fuse(2)
	is(t, d.Append(0, "abcdef"), api.ErrMany)
	is(t, d.Append(1, "abcdef"), api.ErrMany)
	is(t, d.Append(0, "a"), api.ErrDown)
	holds(t, d)
	d = made(t, 5)
	d.Fuse(0)
	is(t, d.Append(0, "abcdef"), api.ErrDown)
	is(t, d.Append(0, ""), api.ErrDown)
}

func TestAMoveToItselfBurns(t *testing.T) {
	d := three(t)
	d.Fuse(1)
	is(t, d.Move(0, 0), api.OK)
	is(t, d.Move(0, 0), api.ErrDown)
	holds(t, d, "abc")
}

// Where there is no such file, or a cut isn't in it, that is told first, and nothing burns.
func TestWhatDoesNotBurn(t *testing.T) {
	for _, n := range []int{0, 1, 3} {
		d := three(t)
		d.Fuse(n)
		for _, c := range idle(d) {
			is(t, c.call(), c.want)
		}
		for range n {
			is(t, d.Sync(1), api.OK)
		}
		for _, c := range idle(d) {
			is(t, c.call(), c.want)
		}
		is(t, d.Sync(1), api.ErrDown)
		for _, c := range idle(d) {
			is(t, c.call(), c.want)
		}
		holds(t, d, "abc")
	}
}

func TestReadAndLeftKeepThePower(t *testing.T) {
	d := three(t)
	d.Fuse(0)
	for range 10 {
		holds(t, d, "abc")
	}
	d.Fuse(-1)
	is(t, d.Sync(0), api.OK)
}
