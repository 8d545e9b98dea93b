package reasm

import (
	"weir/api"
	"weir/ip6"
	"weir/own"
)

const most6 = api.MaxBytes - 40 // bytes behind the Fragment header of a datagram of IPv6, once that header is gone

// take6 lays a fragment into the context of its key, which begins with it, if there is none.
func (t *Table) take6(h api.Ip6) (*context, api.Errno) {
	k := key{src: h.Src, dst: h.Dst, id: h.Frag.ID}
	c, e := t.open(k, most6)
	if e != api.OK {
		return nil, e
	}
	fit, e := c.lay(h.Frag.Off, h.Data, h.Frag.More)
	if e != api.OK {
		return nil, e
	}
	if fit.Same {
		return nil, api.ErrDuplicate
	}
	if fit.Old > 0 {
		c.spoil(api.ErrOverlap)
		return nil, api.ErrOverlap
	}
	if e := t.begin(k, c); e != api.OK {
		return nil, e
	}
	if h.Frag.Off == 0 {
		c.late.First, c.late.H6 = true, own.Six(h)
	}
	return c, api.OK
}

// joined6 is the datagram of a context of which all bytes have come; the head's memory goes over to it.
func (c *context) joined6() (api.Ip6, api.Errno) {
	b, _ := c.holes.Bytes()
	return join(c.late.H6, b)
}

// alone is what comes of a fragment that has no other beside it.
func alone(h api.Ip6) (api.Ip6, int, int, api.Errno) {
	head := own.Six(h)
	whole, e := join(head, head.Data)
	if e != api.OK {
		return api.Ip6{}, 0, 0, e
	}
	return whole, h.Frag.ID, api.OWhole, api.OK
}

// join is a datagram of the head and all the bytes that stood behind the Fragment headers.
func join(head api.Ip6, b []byte) (api.Ip6, api.Errno) {
	exts, next, rest, e := ip6.Chain(head.Next, b)
	if e != api.OK {
		return api.Ip6{}, api.ErrInner
	}
	head.Frag = api.Frag{}
	head.Exts = append(head.Exts, exts...)
	head.Next, head.Data = next, rest
	if ip6.Check(head) != api.OK {
		return api.Ip6{}, api.ErrInner
	}
	return head, api.OK
}
