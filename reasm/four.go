package reasm

import (
	"weir/api"
	"weir/own"
)

const most4 = api.MaxBytes - 20 // bytes of data of a datagram of IPv4

// take4 lays a fragment into the context of its key, which begins with it, if there is none.
func (t *Table) take4(h api.Ip4) (*context, api.Errno) {
	k := key{src: h.Src, dst: h.Dst, proto: h.Proto, id: h.ID}
	c, e := t.open(k, most4)
	if e != api.OK {
		return nil, e
	}
	_, known := c.holes.Total()
	fit, e := c.lay(h.Off, h.Data, h.MF)
	if e != api.OK {
		return nil, e
	}
	if fit.New == 0 && (h.MF || known) {
		return nil, api.ErrDuplicate
	}
	if e := t.begin(k, c); e != api.OK {
		return nil, e
	}
	if h.Off == 0 && !c.late.First {
		c.late.First, c.late.H4 = true, own.Four(h)
	}
	return c, api.OK
}

// joined4 is the datagram of a context of which all bytes have come; the head's memory goes over to it.
func (c *context) joined4() api.Ip4 {
	h := c.late.H4
	h.MF = false
	h.Data, _ = c.holes.Bytes()
	return h
}
