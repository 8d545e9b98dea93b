package split_test

import (
	"weir/api"
	"weir/ip4"
	"weir/ip6"
)

// A second reading of the chapter: every length is that of the bytes that are written, every piece is found by trying, and
// what is cut of an IPv6 datagram is taken out of its own bytes.

func model4(h api.Ip4, mtu int) ([]api.Ip4, api.Errno) {
	b, e := ip4.Serialise(h)
	switch {
	case e != api.OK:
		return nil, e
	case mtu < 68 || mtu > 65535:
		return nil, api.ErrMTU
	case len(b) <= mtu:
		return []api.Ip4{h}, api.OK
	case h.DF:
		return nil, api.ErrDF
	}
	var l []api.Ip4
	for at := 0; at < len(h.Data); {
		x := h
		x.Opts = nil
		for _, o := range h.Opts {
			if len(l) == 0 || o.Kind > 127 {
				x.Opts = append(x.Opts, o)
			}
		}
		x.Off += at
		n := longest(len(h.Data)-at, func(n int) bool {
			x.Data, x.MF = h.Data[at:at+n], h.MF || at+n < len(h.Data)
			b, e := ip4.Serialise(x)
			return e == api.OK && len(b) <= mtu
		})
		l, at = append(l, x), at+n
	}
	return l, api.OK
}

func model6(h api.Ip6, mtu, id int) ([]api.Ip6, api.Errno) {
	b, e := ip6.Serialise(h)
	switch {
	case e != api.OK:
		return nil, e
	case mtu < 1280 || mtu > 65535:
		return nil, api.ErrMTU
	case id < 0 || id >= 1<<32:
		return nil, api.ErrArg
	case len(b) <= mtu:
		return []api.Ip6{h}, api.OK
	case h.Frag.Has:
		return nil, api.ErrRefrag
	}
	kept, end, next := walk(b)
	if end+16 > mtu {
		return nil, api.ErrTight
	}
	var l []api.Ip6
	for all, at := b[end:], 0; at < len(all); {
		x := h
		x.Exts, x.Next = h.Exts[:kept], next
		n := longest(len(all)-at, func(n int) bool {
			x.Data, x.Frag = all[at:at+n], api.Frag{Has: true, ID: id, Off: at, More: at+n < len(all)}
			b, e := ip6.Serialise(x)
			return e == api.OK && len(b) <= mtu
		})
		l, at = append(l, x), at+n
	}
	return l, api.OK
}

// walk goes through the bytes of a datagram without a Fragment header: how many extension headers are kept, where they end
// and the kind of what is behind.
func walk(b []byte) (kept, end, next int) {
	place, kind := 40, int(b[6])
	kept, end, next = 0, place, kind
	for n := 1; kind == 0 || kind == 43 || kind == 60; n++ {
		was := kind
		kind, place = int(b[place]), place+8+8*int(b[place+1])
		if was == 43 || was == 0 {
			kept, end, next = n, place, kind
		}
	}
	return kept, end, next
}

// longest is the greatest number of bytes, at most all that are left, with which a piece may be: a piece that is not the
// last must be one of which Check says that it may be, so it is a multiple of eight. may is asked last of that number.
func longest(left int, may func(int) bool) int {
	for n := left; n > 0; n-- {
		if may(n) {
			return n
		}
	}
	panic("no piece may be")
}
