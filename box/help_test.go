package box_test

import (
	"bytes"
	"fmt"
	"slices"
	"strconv"
	"strings"
	"testing"

	"weir/addr"
	"weir/api"
	"weir/box"
	"weir/icmp"
	"weir/ip4"
	"weir/ip6"
	"weir/packet"
	"weir/split"
)

// The box of most tests has three ports: two inside, and one behind which is all that is far away.
var (
	port0   = api.Mac{2, 0, 0, 0, 0, 1}
	port1   = api.Mac{2, 0, 0, 0, 1, 1}
	port2   = api.Mac{2, 0, 0, 0, 2, 1}
	hostA   = api.Mac{2, 9, 9, 9, 9, 0xa}
	hostB   = api.Mac{2, 9, 9, 9, 9, 0xb}
	gateway = api.Mac{2, 9, 9, 9, 9, 0xf}
	all     = api.Mac{0xff, 0xff, 0xff, 0xff, 0xff, 0xff}
	noMac   = api.Mac{}
)

const (
	own0, own1, own2    = "10.0.0.1", "10.0.1.1", "192.0.2.1"
	own06, own16, own26 = "2001:db8::1", "2001:db8:1::1", "2001:db8:2::1"
	a, b, far           = "10.0.0.2", "10.0.1.9", "198.51.100.7"
	a6, b6, far6        = "2001:db8::2", "2001:db8:1::9", "2001:db8:9::7"
	via, via6           = "192.0.2.254", "fe80::9"
	outside             = "192.0.2.9"
)

func ip(text string) api.IP {
	x, e, _ := addr.ParseIP(text)
	if e != api.OK {
		panic(text)
	}
	return x
}

// net is an address with the length of its net.
func net(text string) api.Prefix {
	at := strings.IndexByte(text, '/')
	n, _ := strconv.Atoi(text[at+1:])
	return api.Prefix{IP: ip(text[:at]), Len: n}
}

func portConfig(mac api.Mac, mtu int, net4, net6 string) api.PortConfig {
	return api.PortConfig{Mac: mac, MTU: mtu, Rx: 8, Tx: 64, Pool: 128, Size: 2048, Net4: net(net4), Net6: net(net6)}
}

func plain() api.Config {
	return api.Config{
		Ports: []api.PortConfig{
			portConfig(port0, 1500, "10.0.0.1/24", "2001:db8::1/64"),
			portConfig(port1, 1280, "10.0.1.1/24", "2001:db8:1::1/64"),
			portConfig(port2, 1500, "192.0.2.1/24", "2001:db8:2::1/64"),
		},
		Routes: []api.Route{
			{Prefix: net("198.51.100.0/24"), Port: 2, Via: ip(via)},
			{Prefix: net("2001:db8:9::/48"), Port: 2, Via: ip(via6)},
		},
		Rules:    []string{"permit any"},
		Neigh:    api.NeighConfig{Max: 16, Line: 4, Every: 3, Tries: 3, Fresh: 1000},
		Contexts: 4, Ticks: 10,
		Nat:     -1,
		Classes: []api.Class{{Quantum: 1500, Items: 64, Bytes: 1 << 20}},
	}
}

// natted is the plain one, whose flows go out by port 2 under an address of their own.
func natted() api.Config {
	c := plain()
	c.Nat = 2
	c.Flow = api.FlowConfig{Max: 16, Outside: ip(outside), Lo: 1000, Hi: 1003, Syn: 4, Tcp: 9, Fin: 3, Udp: 5, Icmp: 2}
	return c
}

// with is a configuration that was turned; that which was handed in stays as it is.
func with(c api.Config, turns ...func(*api.Config)) api.Config {
	c.Ports, c.Routes, c.Rules, c.Classes = slices.Clone(c.Ports), slices.Clone(c.Routes), slices.Clone(c.Rules), slices.Clone(c.Classes)
	for _, turn := range turns {
		turn(&c)
	}
	return c
}

// bench is a box under test.
type bench struct {
	*testing.T
	*box.Box
	ports int
}

func made(t *testing.T, c api.Config) *bench {
	t.Helper()
	x, e := box.New(c)
	if x == nil || e != api.OK {
		t.Fatalf("New = %v, %d", x, e)
	}
	return &bench{t, x, len(c.Ports)}
}

// balances wants every packet to be named (W4, 19.18).
func (x *bench) balances() {
	x.Helper()
	n, k := x.Counts(), x.Kept()
	gone := n.Out + n.Used + k.Rx + k.Frags + k.Waiting + k.Queued + k.Tx
	for _, d := range n.Drops {
		gone += d.N
	}
	if n.In+n.Made != gone {
		x.Fatalf("of %+v and %+v: %d came, %d are named", n, k, n.In+n.Made, gone)
	}
}

// hears lets frames arrive at a port and be handled, one by one.
func (x *bench) hears(port int, frames ...[]byte) {
	x.Helper()
	for _, f := range frames {
		x.Refill(port, 1)
		if e := x.Arrive(port, f); e != api.OK {
			x.Fatalf("Arrive(%d, %x) = %d", port, f, e)
		}
		x.balances()
		if n := x.Poll(1); n != 1 {
			x.Fatalf("Poll(1) = %d", n)
		}
		x.balances()
	}
}

func (x *bench) ticks(n int) {
	x.Helper()
	for range n {
		x.Tick()
		x.balances()
	}
}

// tells wants just these frames to leave by a port.
func (x *bench) tells(port int, want ...[]byte) {
	x.Helper()
	for i, w := range want {
		b, ok := x.Drain(port)
		if !ok || !bytes.Equal(b, w) {
			x.Fatalf("port %d tells as frame %d\n%s, %v, want\n%s", port, i, short(b), ok, short(w))
		}
		x.balances()
	}
	if b, ok := x.Drain(port); ok || len(b) > 0 {
		x.Fatalf("port %d tells %s besides", port, short(b))
	}
}

// short is the beginning of a frame, to be told.
func short(b []byte) string { return fmt.Sprintf("%d bytes: %x", len(b), b[:min(len(b), 100)]) }

// quiet wants no frame to leave.
func (x *bench) quiet() {
	x.Helper()
	for p := range x.ports {
		x.tells(p)
	}
}

// dropped wants packets to have been dropped for just these reasons, rising, and as often as they stand here.
func (x *bench) dropped(reasons ...api.Errno) {
	x.Helper()
	var want []api.Drop
	for _, r := range reasons {
		if n := len(want); n > 0 && want[n-1].Reason == r {
			want[n-1].N++
		} else {
			want = append(want, api.Drop{Reason: r, N: 1})
		}
	}
	if l := x.Counts().Drops; !slices.Equal(l, want) {
		x.Fatalf("dropped are %v, want %v", l, want)
	}
}

// counts wants these counters.
func (x *bench) counts(in, out, used, made int) {
	x.Helper()
	if n := x.Counts(); n.In != in || n.Out != out || n.Used != used || n.Made != made {
		x.Fatalf("counts are %+v, want in %d, out %d, used %d, made %d", n, in, out, used, made)
	}
}

func (x *bench) keeps(want api.Kept) {
	x.Helper()
	if k := x.Kept(); k != want {
		x.Fatalf("kept are %+v, want %+v", k, want)
	}
}

// knows wants these neighbours: their ports, addresses, MACs and states.
func (x *bench) knows(want ...api.Neighbour) {
	x.Helper()
	l := x.Neighbours()
	for i := range l {
		l[i].Age, l[i].Tries, l[i].Waiting = 0, 0, 0
	}
	if !slices.Equal(l, want) {
		x.Fatalf("known are %+v\nwant %+v", l, want)
	}
}

func neighbour(port int, text string, mac api.Mac, state int) api.Neighbour {
	return api.Neighbour{Port: port, IP: ip(text), Mac: mac, State: state}
}

// meets makes a neighbour known and confirmed, and takes the frames that this makes.
func (x *bench) meets(port int, own, mac api.Mac, text, ownText string) {
	x.Helper()
	if ip(text).V == 4 {
		x.hears(port, arp(all, mac, 1, mac, text, noMac, ownText), arp(own, mac, 2, mac, text, own, ownText))
	} else {
		x.hears(port, solicitation(own, mac, text, ownText, ownText, &mac), advertisement(own, mac, text, ownText, text, &mac, true))
	}
	if _, ok := x.Drain(port); !ok {
		x.Fatalf("port %d does not answer %s", port, text)
	}
}

// met is a box to which all hosts are known, of both versions.
func met(t *testing.T, c api.Config) *bench {
	t.Helper()
	x := made(t, c)
	x.meets(0, port0, hostA, a, own0)
	x.meets(1, port1, hostB, b, own1)
	x.meets(2, port2, gateway, via, own2)
	x.meets(0, port0, hostA, a6, own06)
	x.meets(1, port1, hostB, b6, own16)
	x.meets(2, port2, gateway, via6, own26)
	return x
}

// framed is the canonical frame of a packet.
func framed(dst, src api.Mac, p api.Packet) []byte {
	p.Dst, p.Src = dst, src
	b, e := packet.Serialise(p)
	if e != api.OK {
		panic(e)
	}
	return b
}

func tagged(vid int, p api.Packet) api.Packet {
	p.Tags = []api.Tag{{TPID: 0x8100, VID: vid}}
	return p
}

func arpPacket(op int, sm api.Mac, sip string, tm api.Mac, tip string) api.Packet {
	return api.Packet{Kind: api.PArp, Arp: api.Arp{Op: op, SMac: sm, SIP: ip(sip), TMac: tm, TIP: ip(tip)}}
}

func arp(dst, src api.Mac, op int, sm api.Mac, sip string, tm api.Mac, tip string) []byte {
	return framed(dst, src, arpPacket(op, sm, sip, tm, tip))
}

// carrying is a packet from one address to another, with no upper layer yet.
func carrying(src, dst string, hops, proto4, proto6 int) api.Packet {
	s, d := ip(src), ip(dst)
	if s.V == 4 {
		return api.Packet{Kind: api.PIp4, Ip4: api.Ip4{ID: 7, TTL: hops, Proto: proto4, Src: s, Dst: d}}
	}
	return api.Packet{Kind: api.PIp6, Ip6: api.Ip6{Hop: hops, Next: proto6, Src: s, Dst: d}}
}

// pattern is n bytes that are not alike.
func pattern(n int) []byte {
	l := make([]byte, n)
	for i := range l {
		l[i] = byte(i + i/251)
	}
	return l
}

func udp(src, dst string, hops, n int) api.Packet { return udpPorts(src, 5000, dst, 53, hops, n) }

func udpPorts(src string, sport int, dst string, dport, hops, n int) api.Packet {
	p := carrying(src, dst, hops, 17, 17)
	p.L4, p.Udp = api.LUdp, api.Udp{Sport: sport, Dport: dport, Data: pattern(n)}
	return p
}

func tcp(src string, sport int, dst string, dport, flags int, opts ...api.Opt) api.Packet {
	p := carrying(src, dst, 64, 6, 6)
	p.L4, p.Tcp = api.LTcp, api.Tcp{Sport: sport, Dport: dport, Seq: 5, Flags: flags, Win: 100, Opts: opts}
	return p
}

// mss is the option that tells the greatest segment.
func mss(n int) api.Opt { return api.Opt{Kind: 2, Data: []byte{byte(n >> 8), byte(n)}} }

// message is an ICMP message of either version.
func message(src, dst string, hops int, m api.Icmp) api.Packet {
	p := carrying(src, dst, hops, 1, 58)
	p.Ip4.ID = 0
	m.V = ip(src).V
	p.L4, p.Icmp = api.LIcmp, m
	return p
}

// echo asks (or, with the other types, answers) by an id.
func echo(src, dst string, hops, kind, id, n int) api.Packet {
	return message(src, dst, hops, api.Icmp{Type: kind, Rest: id<<16 | 1, Data: pattern(n)})
}

func discovery(dst, src api.Mac, from, to string, hops int, n api.ND) []byte {
	m, e := icmp.PutND(n)
	if e != api.OK {
		panic(e)
	}
	return framed(dst, src, message(from, to, hops, m))
}

func withMac(n api.ND, mac *api.Mac) api.ND {
	if mac != nil {
		n.HasMac, n.Mac = true, *mac
	}
	return n
}

func solicitation(dst, src api.Mac, from, to, target string, mac *api.Mac) []byte {
	return discovery(dst, src, from, to, 255, withMac(api.ND{Kind: api.NDSolicit, Target: ip(target)}, mac))
}

func advertisement(dst, src api.Mac, from, to, target string, mac *api.Mac, solicited bool) []byte {
	return discovery(dst, src, from, to, 255, withMac(api.ND{Kind: api.NDAdvertise, Target: ip(target), Solicited: solicited}, mac))
}

// welcome is the advertisement with which the box answers a solicitation.
func welcome(dst, own api.Mac, ownText, to string) []byte {
	return discovery(dst, own, ownText, to, 255, api.ND{Kind: api.NDAdvertise, Target: ip(ownText), Router: true, Solicited: true, Override: true, HasMac: true, Mac: own})
}

// hop is a packet one hop on.
func hop(p api.Packet) api.Packet {
	if p.Kind == api.PIp4 {
		p.Ip4.TTL--
	} else {
		p.Ip6.Hop--
	}
	return p
}

// noCut is a packet that may not be cut.
func noCut(p api.Packet) api.Packet {
	p.Ip4.DF = true
	return p
}

// closed is a packet with its upper layer as bytes, in its datagram.
func closed(p api.Packet) api.Packet {
	p, e := packet.Close(p)
	if e != api.OK {
		panic(e)
	}
	return p
}

// datagram is the bytes of a packet's datagram.
func datagram(p api.Packet) []byte {
	p = closed(p)
	b, e := ip4.Serialise(p.Ip4)
	if p.Kind == api.PIp6 {
		b, e = ip6.Serialise(p.Ip6)
	}
	if e != api.OK {
		panic(e)
	}
	return b
}

// cuts are the frames of a packet's fragments; of version 6 with that id.
func cuts(dst, src api.Mac, p api.Packet, mtu, id int) [][]byte {
	var l [][]byte
	for _, q := range pieces(p, mtu, id) {
		l = append(l, framed(dst, src, q))
	}
	return l
}

// pieces are a packet's fragments.
func pieces(p api.Packet, mtu, id int) []api.Packet {
	p = closed(p)
	var l []api.Packet
	if p.Kind == api.PIp4 {
		p.Ip4.DF = false
		parts, _ := split.Split4(p.Ip4, mtu)
		for _, h := range parts {
			l = append(l, api.Packet{Tags: p.Tags, Kind: api.PIp4, Ip4: h})
		}
		return l
	}
	parts, _ := split.Split6(p.Ip6, mtu, id)
	for _, h := range parts {
		l = append(l, api.Packet{Tags: p.Tags, Kind: api.PIp6, Ip6: h})
	}
	return l
}

// complaint is what the box tells of a packet, from one of its addresses.
func complaint(from string, kind, code, rest int, about api.Packet) api.Packet {
	to, most := about.Ip4.Src, 548
	if about.Kind == api.PIp6 {
		to, most = about.Ip6.Src, 1232
	}
	text, _ := addr.PrintIP(to)
	d := datagram(about)
	return message(from, text, 64, api.Icmp{Type: kind, Code: code, Rest: rest, Data: d[:min(most, len(d))]})
}
