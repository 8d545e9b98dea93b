package view

import "weir/api"

// Cursor goes through bytes.
type Cursor struct {
	bytes []byte
	place int
}

// At is a cursor at the beginning of b.
func At(b []byte) *Cursor { return &Cursor{bytes: cut(b, 0, len(b))} }

// Uint reads the next n bytes as a number.
func (c *Cursor) Uint(n int) (uint64, api.Errno) {
	v, e := Uint(c.bytes, c.place, n)
	if e == api.OK {
		c.place += n
	}
	return v, e
}

// Window is the next n bytes, in the memory of the bytes that the cursor goes through.
func (c *Cursor) Window(n int) ([]byte, api.Errno) {
	w, e := Window(c.bytes, c.place, n)
	if e == api.OK {
		c.place += n
	}
	return w, e
}

// Skip goes n bytes on.
func (c *Cursor) Skip(n int) api.Errno {
	_, e := c.Window(n)
	return e
}

// Left tells how many bytes are left.
func (c *Cursor) Left() int { return len(c.bytes) - c.place }

// Place tells how many bytes were gone over.
func (c *Cursor) Place() int { return c.place }
