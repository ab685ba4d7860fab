package journal

// An entry's number is laid in as many bytes, the highest first.
const numberSize = 8

// No number that is read is as great as that.
const numberEnd = 1 << 62

// entry is what is laid in a frame: a record and its number, or a snapshot's text and the number of its last record.
type entry struct {
	number int
	text   string
}

func (e entry) laid() string {
	var head [numberSize]byte
	rest := uint64(e.number)
	for at := numberSize - 1; at >= 0; at-- {
		head[at] = byte(rest)
		rest >>= 8
	}
	return string(head[:]) + e.text
}

// read tells the entry of which bytes are what is laid, if they are that of one.
func read(laid string) (entry, bool) {
	if len(laid) < numberSize {
		return entry{}, false
	}
	number := uint64(0)
	for at := range numberSize {
		number = number<<8 | uint64(laid[at])
	}
	if number >= numberEnd {
		return entry{}, false
	}
	return entry{number: int(number), text: laid[numberSize:]}, true
}

// readAll tells the entries of which frames' records are what is laid, if each is that of one.
func readAll(frames []string) ([]entry, bool) {
	var all []entry
	for _, laid := range frames {
		one, ok := read(laid)
		if !ok {
			return nil, false
		}
		all = append(all, one)
	}
	return all, true
}
