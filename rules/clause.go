package rules

import (
	"weir/addr"
	"weir/api"
)

type cameBy int // the port

func (c cameBy) holds(port int, _ *api.Packet) bool { return port == int(c) }

type taggedBy int // the VID of the first tag

func (c taggedBy) holds(_ int, p *api.Packet) bool {
	return len(p.Tags) > 0 && p.Tags[0].VID == int(c)
}

type ofKind int

func (c ofKind) holds(_ int, p *api.Packet) bool { return p.Kind == int(c) }

type ofProto int

func (c ofProto) holds(_ int, p *api.Packet) bool {
	switch p.Kind {
	case api.PIp4:
		return p.Ip4.Proto == int(c)
	case api.PIp6:
		return p.Ip6.Next == int(c)
	}
	return false
}

type withFlags struct{ set, unset int }

func (c withFlags) holds(_ int, p *api.Packet) bool {
	return p.L4 == api.LTcp && p.Tcp.Flags&c.set == c.set && p.Tcp.Flags&c.unset == 0
}

type ofType int // the type of an ICMP message

func (c ofType) holds(_ int, p *api.Packet) bool {
	return p.L4 == api.LIcmp && p.Icmp.Type == int(c)
}

type piece struct{}

func (piece) holds(_ int, p *api.Packet) bool {
	switch p.Kind {
	case api.PIp4:
		return p.Ip4.MF || p.Ip4.Off > 0
	case api.PIp6:
		return p.Ip6.Frag.Has
	}
	return false
}

// question is a test that keeps a list of its own.
type question func(p *api.Packet) bool

func (q question) holds(_ int, p *api.Packet) bool { return q(p) }

// inNets asks whether an address of a packet lies in one of a side's nets, or in none of them.
func inNets(s api.Side, address func(*api.Packet) (api.IP, bool)) question {
	nets, not := copyOf(s.Nets), s.Not
	return func(p *api.Packet) bool {
		ip, ok := address(p)
		return ok && liesIn(nets, ip) != not
	}
}

func liesIn(nets []api.Prefix, ip api.IP) bool {
	for _, n := range nets {
		if addr.Contains(n, ip) {
			return true
		}
	}
	return false
}

// inRanges asks whether a port of a packet lies in one of a side's ranges.
func inRanges(s api.Side, port func(*api.Packet) (int, bool)) question {
	ranges := copyOf(s.Ports)
	return func(p *api.Packet) bool {
		n, ok := port(p)
		return ok && covers(ranges, n)
	}
}

func covers(ranges []api.Range, n int) bool {
	for _, x := range ranges {
		if within(n, x.Lo, x.Hi) {
			return true
		}
	}
	return false
}

func source(p *api.Packet) (api.IP, bool) {
	switch p.Kind {
	case api.PArp:
		return p.Arp.SIP, true
	case api.PIp4:
		return p.Ip4.Src, true
	case api.PIp6:
		return p.Ip6.Src, true
	}
	return api.IP{}, false
}

func target(p *api.Packet) (api.IP, bool) {
	switch p.Kind {
	case api.PArp:
		return p.Arp.TIP, true
	case api.PIp4:
		return p.Ip4.Dst, true
	case api.PIp6:
		return p.Ip6.Dst, true
	}
	return api.IP{}, false
}

func sourcePort(p *api.Packet) (int, bool) {
	switch p.L4 {
	case api.LUdp:
		return p.Udp.Sport, true
	case api.LTcp:
		return p.Tcp.Sport, true
	}
	return 0, false
}

func targetPort(p *api.Packet) (int, bool) {
	switch p.L4 {
	case api.LUdp:
		return p.Udp.Dport, true
	case api.LTcp:
		return p.Tcp.Dport, true
	}
	return 0, false
}
