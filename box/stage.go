package box

import (
	"weir/addr"
	"weir/api"
	"weir/link"
	"weir/packet"
)

// trip is a frame on its way through the box.
type trip struct {
	box    *Box
	in     *port  // by which it came
	bytes  []byte // in the memory of that port's ring
	frame  api.Frame
	packet api.Packet
	local  bool       // it is for the box
	came   fragments  // as which it came
	whole  api.Packet // as it came, put together and read: what a complaint is about
	class  int
	route  api.Route
}

// over is what a stage answers of a packet that it has kept, used up or sent: nothing is left to be done.
const over api.Errno = -1

// stage is one step of what is done with a frame.
type stage struct {
	meant func() bool      // whether the step is meant for it; nil: it is for all
	do    func() api.Errno // OK: it goes on; over; else the reason for which it is dropped
}

// stages are all that may be done with a frame, from its first byte to its leaving.
func (t *trip) stages() []stage {
	return []stage{
		{do: t.readFrame},
		{do: t.checkTag},
		{do: t.checkStation},
		{do: t.readPacket},
		{meant: t.isArp, do: t.hearArp},
		{do: t.checkAddresses},
		{meant: t.isDiscovery, do: t.hearDiscovery},
		{meant: t.isFragment, do: t.join},
		{do: t.open},
		{meant: t.isLocal, do: t.answer},
		{do: t.judge},
		{do: t.checkHops},
		{meant: t.isFromOutside, do: t.translateIn},
		{do: t.findRoute},
		{meant: t.isToOutside, do: t.translateOut},
		{meant: t.isTcp, do: t.clamp},
		{do: t.hop},
		{do: t.leave},
	}
}

// run takes a frame from stage to stage, until one has dropped, kept or sent it.
func (t *trip) run() {
way:
	for _, s := range t.stages() {
		if s.meant != nil && !s.meant() {
			continue way
		}
		switch e := s.do(); e {
		case api.OK:
		case over:
			break way
		default:
			t.box.tally.drop(e, 1)
			break way
		}
	}
}

func (t *trip) readFrame() (e api.Errno) {
	t.frame, e = link.Parse(t.bytes)
	return e
}

// checkTag lets those frames go on that are of the port's virtual net.
func (t *trip) checkTag() api.Errno {
	tags := t.frame.Tags
	untagged := t.in.Vid == 0 && len(tags) == 0
	tagged := t.in.Vid != 0 && len(tags) == 1 && tags[0].TPID == customerTag && tags[0].VID == t.in.Vid
	if !untagged && !tagged {
		return api.ErrVlan
	}
	return api.OK
}

func (t *trip) checkStation() api.Errno {
	if t.frame.Dst != t.in.Mac && !link.Group(t.frame.Dst) {
		return api.ErrNotMine
	}
	return api.OK
}

func (t *trip) readPacket() (e api.Errno) {
	t.packet, e = packet.Parse(t.bytes)
	return e
}

// checkAddresses refuses what may not come from, or go to, where it says, and tells what is for the box from what is in
// transit.
func (t *trip) checkAddresses() api.Errno {
	src, dst := ends(t.packet)
	if t.box.isOwn(src) || t.box.isOutside(src) || !mayCome(src) || !mayGo(dst) ||
		link.Group(t.packet.Dst) && !isMany(dst) ||
		t.box.isOutside(dst) && t.in.number != t.box.nat {
		return api.ErrMartian
	}
	t.local = t.box.isOwn(dst) || isMany(dst)
	if !t.local && !(isUni(src) && isUni(dst)) {
		return api.ErrMartian
	}
	return api.OK
}

func (t *trip) isArp() bool { return t.packet.Kind == api.PArp }

func (t *trip) isLocal() bool { return t.local }

// ends are the source and the destination of a packet that is no ARP.
func ends(p api.Packet) (api.IP, api.IP) {
	if p.Kind == api.PIp4 {
		return p.Ip4.Src, p.Ip4.Dst
	}
	return p.Ip6.Src, p.Ip6.Dst
}

// mayCome tells whether a packet may have that source. Who seeks an address of version 6 has none yet.
func mayCome(ip api.IP) bool {
	class := addr.Class(ip)
	return class == api.CUni || class == api.CLocal || class == api.CZero && ip.V == 6
}

// mayGo tells whether a packet may have that destination.
func mayGo(ip api.IP) bool {
	class := addr.Class(ip)
	return class == api.CUni || class == api.CLocal || isMany(ip)
}

// isMany tells whether an address is that of a group, or of all.
func isMany(ip api.IP) bool {
	class := addr.Class(ip)
	return class == api.CMulti || class == api.CBroad
}

func isUni(ip api.IP) bool { return addr.Class(ip) == api.CUni }
