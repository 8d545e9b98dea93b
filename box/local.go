package box

import (
	"weir/api"
	"weir/icmp"
	"weir/packet"
)

const ownHops = 64 // the TTL, or hop limit, of a datagram of the box's own

// The types of echoes, of both versions.
const (
	ask4    = 8
	answer4 = 0
	ask6    = 128
	answer6 = 129
)

// answer answers an echo that asks; nothing else that is for the box is known to it.
func (t *trip) answer() api.Errno {
	src, dst := ends(t.packet)
	m, ok := echoAnswer(t.packet)
	if !ok || !t.box.isOwn(dst) || !isUni(src) {
		return api.ErrLocal
	}
	t.box.tally.used++
	t.box.sendOwn(message(dst, src, m), t.came)
	return over
}

// echoAnswer is the message that answers an echo; false: it is none that asks.
func echoAnswer(p api.Packet) (api.Icmp, bool) {
	m := p.Icmp
	if p.L4 != api.LIcmp || m.Code != 0 {
		return api.Icmp{}, false
	}
	switch {
	case m.V == 4 && m.Type == ask4:
		m.Type = answer4
	case m.V == 6 && m.Type == ask6:
		m.Type = answer6
	default:
		return api.Icmp{}, false
	}
	return m, true
}

// message is a packet of the box's own that carries an ICMP message.
func message(src, dst api.IP, m api.Icmp) api.Packet {
	if m.V == 4 {
		return api.Packet{Kind: api.PIp4, Ip4: api.Ip4{TTL: ownHops, Proto: 1, Src: src, Dst: dst}, L4: api.LIcmp, Icmp: m}
	}
	return api.Packet{Kind: api.PIp6, Ip6: api.Ip6{Hop: ownHops, Next: 58, Src: src, Dst: dst}, L4: api.LIcmp, Icmp: m}
}

// complain tells the source of a packet what befell it, if that may be told.
func (x *Box) complain(t api.Trouble, p api.Packet) {
	p, e := packet.Close(p)
	if e != api.OK {
		return
	}
	m, ok := complaint(t, p)
	if !ok {
		return
	}
	src, _ := ends(p)
	if r, ok := x.routes.Find(src); ok {
		x.sendOwn(message(x.ports[r.Port].own(src.V), src, m), fragments{})
	}
}

// complaint is the message about a closed packet; false: there is none.
func complaint(t api.Trouble, p api.Packet) (api.Icmp, bool) {
	if p.Kind == api.PIp4 {
		return icmp.Complain4(t, p.Ip4)
	}
	return icmp.Complain6(t, p.Ip6)
}

// sendOwn sends a packet of the box's own.
func (x *Box) sendOwn(p api.Packet, came fragments) {
	x.tally.made++
	_, dst := ends(p)
	r, ok := x.routes.Find(dst)
	if !ok {
		x.tally.drop(api.ErrNoRoute, 1)
		return
	}
	x.tally.refuse(x.ship(piece{packet: p}, came, r))
}
