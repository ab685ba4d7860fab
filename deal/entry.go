package deal

import "nostro/api"

// Who asked to rescind an instruction.
const (
	byA    = 1
	byB    = 2
	byBoth = byA | byB
)

const mostId = 1<<31 - 1

// entry is what a book knows of an Id.
type entry struct {
	deal  api.Deal // the one that came first
	state int
	asked int // who asked to rescind it, as it was matched
	nth   int // the how-manieth it was to be matched, 0 if it never was
}

// mayBe tells whether an instruction may be, of so many members and currencies.
func mayBe(d api.Deal, members, currencies int) bool {
	return d.Id >= 1 && d.Id <= mostId && two(d.A, d.B, members) && two(d.SellCur, d.BuyCur, currencies) &&
		d.Sell >= 1 && d.Buy >= 1
}

// two tells whether x and y are two of so many, told from 0 on.
func two(x, y, count int) bool {
	return x >= 0 && x < count && y >= 0 && y < count && x != y
}

// mirror is the instruction as it is told by its B.
func mirror(d api.Deal) api.Deal {
	d.A, d.B = d.B, d.A
	d.SellCur, d.BuyCur = d.BuyCur, d.SellCur
	d.Sell, d.Buy = d.Buy, d.Sell
	return d
}

// open tells whether an instruction may still be gone: it is neither settled nor gone.
func (e entry) open() bool {
	return e.state == Alone || e.state == Matched
}

// side is as who a member may speak of an instruction, 0 if it may not: of one that is alone its B hasn't told yet.
func (e entry) side(member int) int {
	switch {
	case member == e.deal.A:
		return byA
	case member == e.deal.B && e.state != Alone:
		return byB
	}
	return 0
}

// ask lets an open instruction be rescinded, as far as one side can.
func (e *entry) ask(side int) {
	if e.state == Alone {
		e.state = Gone
		return
	}
	e.asked |= side
	if e.asked == byBoth {
		e.state = Gone
	}
}

// mayStand tells whether there may be an instruction of that state that was asked for, and matched, so: one that was
// never matched was never asked for, and one that both asked for is gone.
func (e entry) mayStand() bool {
	wasMatched := e.nth > 0
	switch e.state {
	case Alone:
		return !wasMatched && e.asked == 0
	case Matched, Settled:
		return wasMatched && e.asked < byBoth
	case Gone:
		return e.asked == 0 || wasMatched && e.asked <= byBoth
	}
	return false
}
