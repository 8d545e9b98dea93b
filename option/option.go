// Package option reads and writes options as the headers of IPv4 and TCP both have them: a kind, a length and data.
package option

import (
	"weir/api"
	"weir/view"
)

const (
	maxBytes = 40 // of all options with the zeros behind them: a header has room for no more
	unit     = 4  // bytes of which a header is a multiple
	end      = 0  // what stands where a kind might, and ends the options
	fill     = 1  // and what stands alone
	minKind  = 2
	maxKind  = 0xff
	headSize = 2 // bytes of an option's kind and length
)

// Read is the options that b holds, their data windows of b; false: b holds something else.
func Read(b []byte) ([]api.Opt, bool) {
	if len(b) > maxBytes {
		return nil, false
	}
	var l []api.Opt
	for c := view.At(b); c.Left() > 0; {
		kind, _ := c.Uint(1)
		if kind == end {
			break
		}
		if kind == fill {
			continue
		}
		data, ok := takeData(c)
		if !ok {
			return nil, false
		}
		l = append(l, api.Opt{Kind: int(kind), Data: data})
	}
	return l, true
}

// takeData takes what stands behind an option's kind.
func takeData(c *view.Cursor) ([]byte, bool) {
	n, e := c.Uint(1)
	if e != api.OK || n < headSize {
		return nil, false
	}
	data, e := c.Window(int(n) - headSize)
	return data, e == api.OK
}

// Put is the options one behind the other, with zeros behind them up to a multiple of 4 bytes; false: they may not be.
func Put(l []api.Opt) ([]byte, bool) {
	b, e := view.NewBuilder(maxBytes)
	if e != api.OK {
		return nil, false
	}
	for _, o := range l {
		if o.Kind < minKind || o.Kind > maxKind || len(o.Data) > maxBytes-headSize {
			return nil, false
		}
		if b.Bytes([]byte{byte(o.Kind), byte(headSize + len(o.Data))}, o.Data) != api.OK {
			return nil, false
		}
	}
	for b.Len()%unit != 0 { // there is room: the most that it may hold is a multiple too
		b.Put(1, end)
	}
	return b.Done(), true
}
