package reasm

import (
	"slices"

	"weir/api"
	"weir/hole"
)

// key says whose fragment it is. IPv6 has no protocol in it; the addresses' versions keep the two apart.
type key struct {
	src, dst  api.IP
	proto, id int
}

// context is what is kept of one datagram. Of its fragments the head alone is kept, for the bytes of all are in holes.
type context struct {
	due     int         // the Tick in which its time is over
	late    api.Late    // what is told then: how many fragments it holds, and its head
	holes   *hole.Holes // nil once it is closed
	refusal api.Errno   // OK while it is open; else why a fragment of it is refused
}

// finish closes a context whose datagram is delivered.
func (c *context) finish() { *c = context{due: c.due, refusal: api.ErrFinished} }

// spoil closes a context that will never deliver.
func (c *context) spoil(why api.Errno) {
	*c = context{due: c.due, late: api.Late{V: c.late.V, Frags: c.late.Frags}, refusal: why}
}

// lay puts a piece into the holes.
func (c *context) lay(off int, data []byte, more bool) (api.Fit, api.Errno) {
	f, e := c.holes.Put(off, data, more)
	if e != api.OK && e != api.ErrNothing {
		e = api.ErrBeyond
	}
	return f, e
}

// open is the context of a key that a fragment may be laid into; if there is none, one that has not begun, of at most so
// many bytes.
func (t *Table) open(k key, most int) (*context, api.Errno) {
	c := t.contexts[k]
	if c == nil {
		holes, e := hole.New(most)
		return &context{due: t.now + t.ticks, late: api.Late{V: k.src.V}, holes: holes}, e
	}
	if c.refusal != api.OK {
		return nil, c.refusal
	}
	if c.late.Frags == api.MaxFrags {
		return nil, api.ErrFrags
	}
	return c, api.OK
}

// begin makes an open context the one of its key, if it is not yet.
func (t *Table) begin(k key, c *context) api.Errno {
	if t.contexts[k] == c {
		return api.OK
	}
	if len(t.order) == t.max {
		i := slices.IndexFunc(t.order, func(k key) bool { return t.contexts[k].refusal == api.ErrFinished })
		if i < 0 {
			return api.ErrTable
		}
		t.end(i)
	}
	t.contexts[k], t.order = c, append(t.order, k)
	return api.OK
}

// end takes the context out that began as the i-th of those that are there.
func (t *Table) end(i int) {
	delete(t.contexts, t.order[i])
	t.order = slices.Delete(t.order, i, i+1)
}
