package packet

import (
	"weir/api"
	"weir/icmp"
	"weir/l4"
)

const (
	four = 4 // the versions of IP
	six  = 6
)

// upper says which number names an upper layer in datagrams of a version.
type upper struct{ version, proto, layer int }

// uppers has those that are read; what any other number names is left as bytes.
var uppers = [6]upper{
	{four, 1, api.LIcmp}, {four, 6, api.LTcp}, {four, 17, api.LUdp},
	{six, 58, api.LIcmp}, {six, 6, api.LTcp}, {six, 17, api.LUdp},
}

// carrier is what an upper layer asks of the datagram that carries it, of whichever version.
type carrier struct {
	version int
	src     api.IP
	dst     api.IP
	proto   int
	piece   bool // it is a fragment
	data    []byte
}

// Open reads what is above IP out of the Data of a packet whose L4 is LNone.
func Open(p api.Packet) (api.Packet, api.Errno) {
	c, ok := carrierOf(p)
	if !ok || p.L4 != api.LNone {
		return p, api.OK
	}
	layer, e := layerOf(c), api.OK
	switch layer {
	case api.LIcmp:
		p.Icmp, e = icmp.Parse(c.version, c.src, c.dst, c.data)
	case api.LUdp:
		p.Udp, e = l4.ParseUdp(c.src, c.dst, c.data)
	case api.LTcp:
		p.Tcp, e = l4.ParseTcp(c.src, c.dst, c.data)
	default:
		return p, api.OK
	}
	if e != api.OK {
		return api.Packet{}, e
	}
	p.L4 = layer
	return withData(p, nil), api.OK
}

// Close writes what is above IP back into Data; L4 is LNone then.
func Close(p api.Packet) (api.Packet, api.Errno) {
	closed, _, e := build(p)
	return closed, e
}

// putUpper closes a packet that is not mixed and whose datagram may be. So its two addresses are of its version, and what is
// refused is what Check of the upper layer refuses.
func putUpper(p api.Packet) (api.Packet, api.Errno) {
	var data []byte
	var e api.Errno
	c, _ := carrierOf(p)
	switch p.L4 {
	case api.LIcmp:
		data, e = icmp.Serialise(c.src, c.dst, p.Icmp)
	case api.LUdp:
		data, e = l4.PutUdp(c.src, c.dst, p.Udp)
	case api.LTcp:
		data, e = l4.PutTcp(c.src, c.dst, p.Tcp)
	default:
		return p, api.OK
	}
	if e != api.OK {
		return api.Packet{}, e
	}
	p.L4, p.Icmp, p.Udp, p.Tcp = api.LNone, api.Icmp{}, api.Udp{}, api.Tcp{}
	return withData(p, data), api.OK
}

// mixed tells whether the values do not belong together, whatever each of them is.
func mixed(p api.Packet) bool {
	c, ok := carrierOf(p)
	if !ok {
		return p.Kind != api.PArp || p.L4 != api.LNone || strayPart(p)
	}
	return p.L4 != layerOf(c) || strayPart(p) ||
		p.L4 != api.LNone && len(c.data) > 0 ||
		p.L4 == api.LIcmp && p.Icmp.V != c.version
}

// strayPart tells whether something stands in a part that Kind and L4 do not name.
func strayPart(p api.Packet) bool {
	return p.Kind != api.PArp && p.Arp != (api.Arp{}) ||
		p.Kind != api.PIp4 && !sameIp4(p.Ip4, api.Ip4{}) ||
		p.Kind != api.PIp6 && !sameIp6(p.Ip6, api.Ip6{}) ||
		p.L4 != api.LIcmp && !sameIcmp(p.Icmp, api.Icmp{}) ||
		p.L4 != api.LUdp && !sameUdp(p.Udp, api.Udp{}) ||
		p.L4 != api.LTcp && !sameTcp(p.Tcp, api.Tcp{})
}

// carrierOf is what the packet's datagram says to its upper layer; false: it has none.
func carrierOf(p api.Packet) (carrier, bool) {
	switch p.Kind {
	case api.PIp4:
		h := p.Ip4
		return carrier{four, h.Src, h.Dst, h.Proto, h.MF || h.Off > 0, h.Data}, true
	case api.PIp6:
		h := p.Ip6
		return carrier{six, h.Src, h.Dst, h.Next, h.Frag.Has, h.Data}, true
	}
	return carrier{}, false
}

// layerOf is the L4 that an open packet has by its datagram.
func layerOf(c carrier) int {
	for _, u := range uppers {
		if !c.piece && u.version == c.version && u.proto == c.proto {
			return u.layer
		}
	}
	return api.LNone
}

// withData is the packet with other Data in its datagram.
func withData(p api.Packet, data []byte) api.Packet {
	if p.Kind == api.PIp4 {
		p.Ip4.Data = data
	} else {
		p.Ip6.Data = data
	}
	return p
}
