package box

import (
	"weir/api"
	"weir/packet"
	"weir/queue"
	"weir/ring"
)

const customerTag = 0x8100

// port is one port: its rings, its queue and how it is configured are its own.
type port struct {
	*ring.Port
	*queue.Queue
	api.PortConfig
	number int
}

// own is the port's own address of a version, or none.
func (p *port) own(version int) api.IP {
	switch version {
	case 4:
		return p.Net4.IP
	case 6:
		return p.Net6.IP
	}
	return api.IP{}
}

// has tells whether the port has an own address of a version.
func (p *port) has(version int) bool { return p.own(version) != (api.IP{}) }

// frame is the canonical frame as which a packet leaves by this port.
func (p *port) frame(to api.Mac, q api.Packet) ([]byte, api.Errno) {
	q, e := packet.Open(q)
	if e != api.OK {
		return nil, e
	}
	q.Dst, q.Src, q.Tags = to, p.Mac, nil
	if p.Vid != 0 {
		q.Tags = []api.Tag{{TPID: customerTag, VID: p.Vid}}
	}
	return packet.Serialise(q)
}

// load puts a frame into the TX ring.
func (p *port) load(frame []byte) api.Errno {
	i, w, e := p.Take()
	if e != api.OK {
		return e
	}
	if len(frame) > p.Size {
		p.Release(i)
		return api.ErrBig
	}
	copy(w, frame)
	if e := p.Send(i, len(frame)); e != api.OK {
		p.Release(i)
		return e
	}
	return api.OK
}

// maySend tells whether the queue has a frame whose turn it is, and the TX ring a place for it.
func (p *port) maySend() bool {
	_, _, ok := p.Peek()
	return ok && p.Stat().Queued < p.Tx
}
