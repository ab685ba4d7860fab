package disk

// noFuse stands in a fuse's place where there is none.
const noFuse = -1

// power is there or gone, and a fuse tells for how many calls it lasts.
type power struct {
	gone bool
	fuse int
}

// fresh is power without a fuse.
func fresh() power {
	return power{fuse: noFuse}
}

// setFuse lets the fuse be n, or lets there be none, if n is below 0. Power that is gone doesn't come by it.
func (p *power) setFuse(n int) {
	p.fuse = max(n, noFuse)
}

// burn takes what one call needs, and tells whether it was there.
func (p *power) burn() bool {
	if p.fuse == 0 {
		p.gone = true
	}
	if p.gone {
		return false
	}
	if p.fuse != noFuse {
		p.fuse--
	}
	return true
}
