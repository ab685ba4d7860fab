package wire

// A command's Kinds.
const (
	submit  = 1
	rescind = 2
	payIn   = 3
	tick    = 4
	rate    = 5
	cut     = 6
	fail    = 7
	drop    = 8
	ask     = 9
)

// field is a number of a command, that can be laid behind bytes, and taken from the front of some, which tells the rest.
type field struct {
	size int
	lay  func(b []byte) []byte
	take func(s string) string
}

// fieldAt is the field of the number that n points to.
func fieldAt[N whole](n *N, size int) field {
	return field{
		size: size,
		lay:  func(b []byte) []byte { return lay(b, *n, size) },
		take: func(s string) (rest string) {
			*n, rest = take[N](s, size)
			return rest
		},
	}
}

// fields are those that a command's Kind uses, in the order of its bytes; each Kind has some, what is no Kind none.
func (c *Command) fields() []field {
	member, id, other := fieldAt(&c.Member, byteSize), fieldAt(&c.Id, idSize), fieldAt(&c.Other, byteSize)
	cur, cur2 := fieldAt(&c.Cur, byteSize), fieldAt(&c.Cur2, byteSize)
	amount, amount2 := fieldAt(&c.Amount, amountSize), fieldAt(&c.Amount2, amountSize)
	switch c.Kind {
	case submit:
		return []field{member, id, other, cur, cur2, amount, amount2}
	case rescind:
		return []field{member, id}
	case payIn:
		return []field{member, cur, amount}
	case tick, drop:
		return []field{id}
	case rate, cut:
		return []field{cur, amount}
	case fail:
		return []field{member}
	case ask:
		return []field{member, cur}
	}
	return nil
}

// laid tells the bytes of a command's Kind and fields; of what is out of range they have only the last ones.
func (c Command) laid() string {
	b := lay(nil, c.Kind, byteSize)
	for _, f := range c.fields() {
		b = f.lay(b)
	}
	return string(b)
}

func sizeOf(fields []field) int {
	size := 0
	for _, f := range fields {
		size += f.size
	}
	return size
}
