package split

import (
	"slices"

	"weir/api"
	"weir/ip6"
	"weir/own"
)

// The kinds of extension headers that routers on the way look at.
const (
	hopByHop = 0
	routing  = 43
)

// six is IPv6: every piece has the same headers.
type six struct{ every int }

func (s six) heads(int) int { return s.every }

// pieces6 is h cut; Check has taken it, it is above mtu and no fragment.
func pieces6(h api.Ip6, mtu, id int) ([]api.Ip6, api.Errno) {
	n := kept(h.Exts)
	bare := h // a piece without its part
	bare.Exts, bare.Frag, bare.Data = h.Exts[:n], api.Frag{Has: true, ID: id}, nil
	if n < len(h.Exts) {
		bare.Next = h.Exts[n].Kind
	}
	heads := six{ip6.Size(bare)}
	if heads.every+unit > mtu {
		return nil, api.ErrTight
	}
	chain, _ := ip6.PutChain(h.Exts[n:], h.Next) // it may be: Check took these headers, and one of kind 0 is kept
	parts := cut(slices.Concat(chain, h.Data), heads, mtu)
	l := make([]api.Ip6, len(parts))
	for i, p := range parts {
		x := bare
		x.Frag.Off, x.Frag.More, x.Data = p.at, !p.last, p.data
		l[i] = own.Six(x)
	}
	return l, api.OK
}

// kept is how many of the extension headers stand in every piece: those that are looked at on the way, and all ahead of them.
func kept(l []api.Ext) int {
	for n := len(l); n > 0; n-- {
		if l[n-1].Kind == routing {
			return n
		}
	}
	if len(l) > 0 && l[0].Kind == hopByHop {
		return 1
	}
	return 0
}
