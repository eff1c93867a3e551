package conn

// came is bytes that came, of which some at the front were read.
type came struct {
	bytes []byte
	read  int
}

// left is what was not read yet.
func (c *came) left() []byte { return c.bytes[c.read:] }

func (c *came) add(b []byte) { c.bytes = append(c.bytes, b...) }

// drop says that so many more were read.
func (c *came) drop(n int) {
	c.read += n
	// What was read goes when it is no less than what is left: sooner, and what waits behind a full pipe would be
	// copied for each request that is read.
	if c.read >= len(c.left()) {
		*c = came{bytes: append([]byte(nil), c.left()...)}
	}
}
