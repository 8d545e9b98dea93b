package box

import (
	"weir/api"
	"weir/packet"
	"weir/split"
)

// piece is a datagram that goes out by a port: a packet, or a part of one that was cut.
type piece struct {
	packet api.Packet
	class  int
	about  *api.Packet // what a complaint about it is about; nil: it is of the box's own, and there is none
}

func four(h api.Ip4) api.Packet { return api.Packet{Kind: api.PIp4, Ip4: h} }

func six(h api.Ip6) api.Packet { return api.Packet{Kind: api.PIp6, Ip6: h} }

// ship sends a packet by a route, cut to the MTU of the way out, if it may be.
func (x *Box) ship(p piece, came fragments, r api.Route) api.Errno {
	closed, e := packet.Close(p.packet)
	if e != api.OK {
		return e
	}
	out := x.ports[r.Port]
	l, e := cut(closed, came, out.MTU)
	if e != api.OK {
		return e
	}
	if len(l) > 1 {
		x.tally.used++
		x.tally.made += len(l)
	}
	hop := r.Via
	if hop == (api.IP{}) {
		_, hop = ends(closed)
	}
	for _, q := range l {
		p.packet = q
		x.toNextHop(out, hop, p)
	}
	return api.OK
}

// cut is a closed packet as what goes over a link of that MTU: alone, or its pieces.
func cut(p api.Packet, came fragments, mtu int) ([]api.Packet, api.Errno) {
	if p.Kind == api.PIp4 {
		l, e := split.Split4(p.Ip4, mtu)
		return each(l, four), e
	}
	if !came.any && !split.Fits6(p.Ip6, mtu) {
		return nil, api.ErrTooBig
	}
	l, e := split.Split6(p.Ip6, mtu, came.id)
	return each(l, six), e
}

func each[T, U any](l []T, turn func(T) U) []U {
	turned := make([]U, len(l))
	for i, v := range l {
		turned[i] = turn(v)
	}
	return turned
}

// toNextHop sends a piece to a neighbour of a port, or lets it wait till that is known.
func (x *Box) toNextHop(out *port, hop api.IP, p piece) {
	x.last++
	n := x.last
	mac, outcome, e := x.neighs.Want(out.number, hop, n)
	switch outcome {
	case api.NKnown, api.NKnownAsk:
		x.enqueue(out, mac, n, p)
	case api.NAsk, api.NWait:
		x.waiting[n] = p
	default:
		x.tally.drop(e, 1)
	}
	if outcome == api.NAsk || outcome == api.NKnownAsk {
		x.ask(out, hop, mac)
	}
}

// enqueue puts the frame of a piece into the queue of the way out.
func (x *Box) enqueue(out *port, mac api.Mac, n int, p piece) {
	frame, e := out.frame(mac, p.packet)
	if e == api.OK {
		e = out.Push(p.class, len(frame), n)
	}
	if e != api.OK {
		x.tally.drop(e, 1)
		return
	}
	x.queued[n] = frame
}

// sendAll lets each port send what its queue has and its TX ring takes.
func (x *Box) sendAll() {
	for _, p := range x.ports {
		for p.maySend() {
			x.sendNext(p)
		}
	}
}

// sendNext sends the frame whose turn it is.
func (x *Box) sendNext(p *port) {
	n, _, _ := p.Pop()
	frame := x.queued[n]
	delete(x.queued, n)
	if len(frame) > p.Size { // here this is asked ahead of whether a buffer is free
		x.tally.drop(api.ErrBig, 1)
		return
	}
	x.tally.refuse(p.load(frame))
}
