package ip4

import (
	"weir/api"
	"weir/view"
)

const (
	maxOptions = 40 // bytes of all options with the zeros behind them
	end        = 0  // what stands where a kind might, and ends the options
	fill       = 1  // and what stands alone
	minKind    = 2
	optHead    = 2 // bytes of an option's kind and length
)

// Options reads options.
func Options(b []byte) ([]api.Opt, api.Errno) {
	if len(b) > maxOptions {
		return nil, api.ErrIp4Option
	}
	var l []api.Opt
	for c := view.At(b); c.Left() > 0; {
		kind, _ := c.Uint(1)
		if kind == end {
			break
		}
		if kind == fill {
			continue
		}
		data, e := optionData(c)
		if e != api.OK {
			return nil, e
		}
		l = append(l, api.Opt{Kind: int(kind), Data: data})
	}
	return l, api.OK
}

// optionData takes what stands behind an option's kind.
func optionData(c *view.Cursor) ([]byte, api.Errno) {
	n, e := c.Uint(1)
	if e != api.OK || n < optHead {
		return nil, api.ErrIp4Option
	}
	data, e := c.Window(int(n) - optHead)
	if e != api.OK {
		return nil, api.ErrIp4Option
	}
	return data, api.OK
}

// PutOptions writes options, padded.
func PutOptions(l []api.Opt) ([]byte, api.Errno) {
	b, e := view.NewBuilder(maxOptions)
	if e != api.OK {
		return nil, e
	}
	for _, o := range l {
		if o.Kind < minKind || o.Kind > maxByte || len(o.Data) > maxOptions-optHead {
			return nil, api.ErrIp4Option
		}
		if b.Bytes([]byte{byte(o.Kind), byte(optHead + len(o.Data))}, o.Data) != api.OK {
			return nil, api.ErrIp4Option
		}
	}
	for b.Len()%unit != 0 { // there is room: the most that it may hold is a multiple too
		b.Put(1, end)
	}
	return b.Done(), api.OK
}
