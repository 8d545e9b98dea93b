package icmp

import (
	"weir/addr"
	"weir/api"
	"weir/view"
)

// Rest of an advertisement.
const (
	router    = 1 << 31
	solicited = 1 << 30
	override  = 1 << 29
)

const (
	targetSize = 16
	optHead    = 2 // bytes of an option's kind and length
	unit       = 8 // bytes that an option's length counts as one
)

// discovery says of what Type the messages of one Kind are, and which option has the link address in them.
type discovery struct{ kind, message, link int }

var discoveries = [2]discovery{{api.NDSolicit, 135, 1}, {api.NDAdvertise, 136, 2}}

// ParseND reads neighbour discovery out of a message.
func ParseND(m api.Icmp) (api.ND, api.Errno) {
	if e := Check(m); e != api.OK {
		return api.ND{}, e
	}
	d, ok := discoveryOf(m)
	if !ok {
		return api.ND{}, api.ErrNotND
	}
	c := view.At(m.Data)
	target, e := takeTarget(c)
	if e != api.OK {
		return api.ND{}, e
	}
	mac, has, e := takeLink(c, d.link)
	if e != api.OK {
		return api.ND{}, e
	}
	n := api.ND{Kind: d.kind, Target: target, HasMac: has, Mac: mac}
	if n.Kind == api.NDAdvertise {
		n.Router, n.Solicited, n.Override = m.Rest&router != 0, m.Rest&solicited != 0, m.Rest&override != 0
	}
	return n, api.OK
}

// PutND is the message of neighbour discovery.
func PutND(n api.ND) (api.Icmp, api.Errno) {
	d, ok := discoveryFor(n.Kind)
	rest := bit(n.Router, router) | bit(n.Solicited, solicited) | bit(n.Override, override)
	if !ok || n.Kind == api.NDSolicit && rest != 0 || !n.HasMac && n.Mac != (api.Mac{}) {
		return api.Icmp{}, api.ErrArg
	}
	if !targetMayBe(n.Target) {
		return api.Icmp{}, api.ErrNdTarget
	}
	b, e := view.NewBuilder(targetSize + unit)
	if e != api.OK {
		return api.Icmp{}, e
	}
	b.Bytes(n.Target.A[:])
	if n.HasMac {
		b.Bytes([]byte{byte(d.link), 1}, n.Mac[:])
	}
	return api.Icmp{V: six, Type: d.message, Rest: rest, Data: b.Done()}, api.OK
}

// discoveryOf is the one of which a message is; false: it is of none.
func discoveryOf(m api.Icmp) (discovery, bool) {
	for _, d := range discoveries {
		if m.V == six && m.Type == d.message && m.Code == 0 {
			return d, true
		}
	}
	return discovery{}, false
}

// discoveryFor is the one of that Kind; false: there is none.
func discoveryFor(kind int) (discovery, bool) {
	for _, d := range discoveries {
		if d.kind == kind {
			return d, true
		}
	}
	return discovery{}, false
}

// takeTarget takes the address that a message is about.
func takeTarget(c *view.Cursor) (api.IP, api.Errno) {
	w, e := c.Window(targetSize)
	if e != api.OK {
		return api.IP{}, api.ErrNdShort
	}
	a := api.IP{V: six}
	copy(a.A[:], w)
	if !targetMayBe(a) {
		return api.IP{}, api.ErrNdTarget
	}
	return a, api.OK
}

func targetMayBe(a api.IP) bool {
	class := addr.Class(a)
	return a.V == six && class != api.CNone && class != api.CMulti && class != api.CZero
}

// takeLink goes through the options to the last, for each of them must be one; the first of the kind link counts.
func takeLink(c *view.Cursor, link int) (api.Mac, bool, api.Errno) {
	mac, has := api.Mac{}, false
	for c.Left() > 0 {
		kind, data, e := takeOption(c)
		if e != api.OK {
			return api.Mac{}, false, e
		}
		if kind != link {
			continue
		}
		if len(data) != len(mac) {
			return api.Mac{}, false, api.ErrNdOption
		}
		if !has {
			copy(mac[:], data)
			has = true
		}
	}
	return mac, has, api.OK
}

// takeOption takes one option: its kind, and what stands behind its length.
func takeOption(c *view.Cursor) (int, []byte, api.Errno) {
	head, e := c.Window(optHead)
	if e != api.OK || head[1] == 0 {
		return 0, nil, api.ErrNdOption
	}
	data, e := c.Window(unit*int(head[1]) - optHead)
	if e != api.OK {
		return 0, nil, api.ErrNdOption
	}
	return int(head[0]), data, api.OK
}

// bit is v, if set.
func bit(set bool, v int) int {
	if set {
		return v
	}
	return 0
}
