package packet

import "weir/api"

// echo has the types by which messages of a version ask for an echo and answer.
type echo struct{ version, asks, answers int }

var echoes = [2]echo{{four, 8, 0}, {six, 128, 129}}

// Tuple tells whose packet it is.
func Tuple(p api.Packet) (api.Tuple, bool) {
	c, ok := carrierOf(p)
	if !ok {
		return api.Tuple{}, false
	}
	t := api.Tuple{Proto: protoOf(c.version, p.L4), Src: c.src, Dst: c.dst}
	switch p.L4 {
	case api.LIcmp:
		t.Sport, t.Dport, ok = echoPorts(c.version, p.Icmp)
	case api.LUdp:
		t.Sport, t.Dport = p.Udp.Sport, p.Udp.Dport
	case api.LTcp:
		t.Sport, t.Dport = p.Tcp.Sport, p.Tcp.Dport
	default:
		ok = false
	}
	if !ok {
		return api.Tuple{}, false
	}
	return t, true
}

// Reverse is the tuple of the answers.
func Reverse(t api.Tuple) api.Tuple {
	t.Src, t.Dst = t.Dst, t.Src
	t.Sport, t.Dport = t.Dport, t.Sport
	return t
}

// echoPorts is what stands for the ports of an echo: its id, on the side of who asks; false: it is no echo.
func echoPorts(version int, m api.Icmp) (sport, dport int, ok bool) {
	id := m.Rest >> 16 & 0xffff
	for _, x := range echoes {
		switch {
		case x.version != version || m.Code != 0:
		case m.Type == x.asks:
			return id, 0, true
		case m.Type == x.answers:
			return 0, id, true
		}
	}
	return 0, 0, false
}

// protoOf is the number that names an upper layer in datagrams of that version, 0 of none.
func protoOf(version, layer int) int {
	for _, u := range uppers {
		if u.version == version && u.layer == layer {
			return u.proto
		}
	}
	return 0
}
