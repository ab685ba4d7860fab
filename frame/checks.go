package frame

// checks holds of each single byte by how much it changes a check.
type checks [256]uint32

// backward is the polynomial of the published CRC-32, its bits from the last one to the first one.
const backward = 0xEDB88320

// checksOfBytes makes the array: who checks many records has it made once.
func checksOfBytes() *checks {
	var made checks
	for place := range made {
		check := uint32(place)
		for range 8 {
			odd := check&1 == 1
			check >>= 1
			if odd {
				check ^= backward
			}
		}
		made[place] = check
	}
	return &made
}

// of is the check of bytes.
func (c *checks) of(b string) uint32 {
	check := ^uint32(0)
	// By places: a range over the string would go through its letters.
	for place := range len(b) {
		check = check>>8 ^ c[byte(check)^b[place]]
	}
	return ^check
}
