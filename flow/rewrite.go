package flow

import (
	"weir/api"
	"weir/own"
	"weir/packet"
)

// Rewrite is a packet with another tuple.
func Rewrite(p api.Packet, x api.Tuple) (api.Packet, api.Errno) {
	old, ok := packet.Tuple(p)
	if !ok || packet.Check(p) != api.OK || !isTuple(x) || x.Src.V != old.Src.V {
		return api.Packet{}, api.ErrRewrite
	}
	q := carrying(p, x)
	if now, _ := packet.Tuple(q); now != x { // another protocol, or an echo's id on the wrong side
		return api.Packet{}, api.ErrRewrite
	}
	return own.Packet(q), api.OK
}

// carrying is a packet with the addresses and ports of x, as far as it has a place for them.
func carrying(p api.Packet, x api.Tuple) api.Packet {
	if p.Kind == api.PIp4 {
		p.Ip4.Src, p.Ip4.Dst = x.Src, x.Dst
	} else {
		p.Ip6.Src, p.Ip6.Dst = x.Src, x.Dst
	}
	switch p.L4 {
	case api.LTcp:
		p.Tcp.Sport, p.Tcp.Dport = x.Sport, x.Dport
	case api.LUdp:
		p.Udp.Sport, p.Udp.Dport = x.Sport, x.Dport
	case api.LIcmp: // one of the two is 0, whichever side asked
		p.Icmp.Rest = p.Icmp.Rest&0xffff | (x.Sport|x.Dport)<<16
	}
	return p
}
