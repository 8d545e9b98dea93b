package box

import (
	"weir/api"
	"weir/flow"
	"weir/l4"
	"weir/own"
	"weir/packet"
)

// The bytes of the headers, of IP and TCP without options, ahead of a segment's data.
const (
	heads4 = 40
	heads6 = 60
)

// fragments says whether a packet came as fragments, and, of version 6, with which id.
type fragments struct {
	any bool
	id  int
}

func (t *trip) isFragment() bool {
	h := t.packet.Ip4
	return h.MF || h.Off > 0 || t.packet.Ip6.Frag.Has
}

// join offers a fragment to those that came before it; what becomes whole goes on.
func (t *trip) join() api.Errno {
	if _, dst := ends(t.packet); isMany(dst) {
		return api.ErrLocal
	}
	x := t.box
	held := x.frags.Held()
	whole, outcome, e := t.offer()
	gone := max(0, held-x.frags.Held())
	if e != api.OK {
		x.tally.drop(e, gone)
		return e
	}
	if outcome == api.OHeld {
		return over
	}
	x.tally.used += 1 + gone
	x.tally.made++
	whole.Dst, whole.Src, whole.Tags = t.packet.Dst, t.packet.Src, t.packet.Tags
	t.packet, t.came.any = whole, true
	return api.OK
}

func (t *trip) offer() (api.Packet, int, api.Errno) {
	if t.packet.Kind == api.PIp4 {
		h, outcome, e := t.box.frags.Offer4(t.packet.Ip4)
		return four(h), outcome, e
	}
	h, id, outcome, e := t.box.frags.Offer6(t.packet.Ip6)
	t.came.id = id
	return six(h), outcome, e
}

// open reads the upper layer of what was put together; that of all else was read with the frame.
func (t *trip) open() (e api.Errno) {
	t.packet, e = packet.Open(t.packet)
	t.whole = t.packet
	return e
}

func (t *trip) judge() api.Errno {
	v := t.box.rules.Judge(t.in.number, t.packet)
	if v.Act == api.APermit {
		t.class = v.Class
		return api.OK
	}
	if v.Act == api.AReject {
		t.complain(api.TAdmin, 0)
	}
	return api.ErrDenied
}

func (t *trip) checkHops() api.Errno {
	hops, e := t.packet.Ip4.TTL, api.ErrIp4TTL
	if t.packet.Kind == api.PIp6 {
		hops, e = t.packet.Ip6.Hop, api.ErrHop6
	}
	if hops > 1 {
		return api.OK
	}
	t.complain(api.THops, 0)
	return e
}

func (t *trip) isFromOutside() bool { return t.in.number == t.box.nat }

func (t *trip) translateIn() api.Errno { return t.translate(t.box.flows.In) }

func (t *trip) findRoute() api.Errno {
	_, dst := ends(t.packet)
	r, ok := t.box.routes.Find(dst)
	if !ok {
		t.complain(api.TNoRoute, 0)
		return api.ErrNoRoute
	}
	t.route = r
	return api.OK
}

func (t *trip) isToOutside() bool { return t.route.Port == t.box.nat }

func (t *trip) translateOut() api.Errno {
	if t.isFromOutside() {
		return api.ErrNoRoute
	}
	return t.translate(t.box.flows.Out)
}

// translate gives a packet the tuple that its flow has on the other side.
func (t *trip) translate(turn func(api.Tuple, int) (api.Tuple, api.Errno)) api.Errno {
	tuple, ok := packet.Tuple(t.packet)
	if !ok {
		return api.ErrProto
	}
	tuple, e := turn(tuple, t.packet.Tcp.Flags) // 0 of what is no segment
	if e != api.OK {
		return e
	}
	t.packet, e = flow.Rewrite(t.packet, tuple)
	return e
}

func (t *trip) isTcp() bool { return t.packet.L4 == api.LTcp }

// clamp lets a segment that opens a connection ask for no more than what goes over the way out uncut.
func (t *trip) clamp() api.Errno {
	heads := heads4
	if t.packet.Kind == api.PIp6 {
		heads = heads6
	}
	t.packet.Tcp = l4.Clamp(t.packet.Tcp, t.out().MTU-heads)
	return api.OK
}

func (t *trip) hop() api.Errno {
	if t.packet.Kind == api.PIp4 {
		t.packet.Ip4.TTL--
	} else {
		t.packet.Ip6.Hop--
	}
	return api.OK
}

// leave sends a packet on, whole or cut.
func (t *trip) leave() api.Errno {
	about := own.Packet(t.whole) // for a piece may wait longer than the frame lies in its buffer
	e := t.box.ship(piece{packet: t.packet, class: t.class, about: &about}, t.came, t.route)
	if e == api.ErrDF || e == api.ErrTooBig {
		t.complain(api.TTooBig, t.out().MTU)
	}
	if e != api.OK {
		return e
	}
	return over
}

// out is the way out.
func (t *trip) out() *port { return t.box.ports[t.route.Port] }

func (t *trip) complain(kind, extra int) {
	t.box.complain(api.Trouble{Kind: kind, Extra: extra}, t.whole)
}

// endLateFragments drops those whose datagram did not become whole in time.
func (x *Box) endLateFragments() {
	for _, l := range x.frags.Tick() {
		x.tally.drop(api.ErrLate, l.Frags)
		if !l.First {
			continue
		}
		head := four(l.H4)
		if l.V == 6 {
			head = six(l.H6)
		}
		x.complain(api.Trouble{Kind: api.TFrags}, head)
	}
}
