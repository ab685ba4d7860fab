package disk

// content is what a file has: bytes, of which the first ones are sure.
type content struct {
	// Bytes, not a string: laying one more behind many must not go over the many again.
	bytes []byte
	sure  int
}

func (c *content) size() int {
	return len(c.bytes)
}

func (c *content) told() string {
	return string(c.bytes)
}

func (c *content) lay(b string) {
	c.bytes = append(c.bytes, b...)
}

func (c *content) makeSure() {
	c.sure = c.size()
}

// cut leaves the first n bytes; there are as many.
func (c *content) cut(n int) {
	c.bytes = c.bytes[:n]
	c.sure = min(c.sure, n)
}

// crash leaves what is sure, and of the rest the first bytes, as many as are kept, but no fewer than none.
func (c *content) crash(kept int) {
	// Held against the rest ahead of the sum, which could leave its bits.
	rest := min(max(kept, 0), c.size()-c.sure)
	c.cut(c.sure + rest)
	c.makeSure()
}
