package queue

import "weir/api"

const (
	maxQuantum = 65535
	maxBytes   = 1 << 26 // of a class
	maxRate    = 1 << 26
	minBurst   = 65535 // as the greatest item: else it could be held up for ever
	maxBurst   = 1 << 28
)

// item is a number that the caller chose, with its size.
type item struct{ number, size int }

// class is one class, but for its deficit, which is the turn's.
type class struct {
	limits api.Class
	line   line[item]
	bytes  int // of what is in the line
	tokens int
}

// limitsMayBe tells whether a class may have these limits.
func limitsMayBe(c api.Class) bool {
	return within(c.Quantum, api.MinQuantum, maxQuantum) && within(c.Items, 1, api.MaxQueue) && within(c.Bytes, 1, maxBytes) &&
		within(c.Rate, 0, maxRate) && (c.Rate == 0 || within(c.Burst, minBurst, maxBurst))
}

func (c *class) shaped() bool { return c.limits.Rate > 0 }

func (c *class) waits() bool { return c.line.count > 0 }

func (c *class) heldUp() bool { return c.shaped() && c.waits() && c.tokens < c.line.head().size }

func (c *class) ready() bool { return c.waits() && !c.heldUp() }

func (c *class) hasRoom(size int) bool {
	return c.line.count < c.limits.Items && c.bytes+size <= c.limits.Bytes
}

func (c *class) join(size, number int) {
	c.line.join(item{number, size})
	c.bytes += size
}

// leave takes the head out, and its size from the tokens.
func (c *class) leave() item {
	i := c.line.leave()
	c.bytes -= i.size
	if c.shaped() {
		c.tokens -= i.size
	}
	return i
}

// fill brings the tokens of one tick.
func (c *class) fill() {
	if c.shaped() {
		c.tokens = min(c.tokens+c.limits.Rate, c.limits.Burst)
	}
}
