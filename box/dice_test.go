package box_test

import (
	"math/rand"
	"slices"

	"weir/api"
	"weir/box"
	"weir/icmp"
	"weir/link"
	"weir/packet"
)

// dice draws configurations and frames: ordinary ones, those at the edges, and some that are wrong.
type dice struct {
	*rand.Rand
	c     api.Config
	later [8][][]byte // frames that are still to come by each port, of datagrams that were cut
}

func (d *dice) of(l ...int) int { return l[d.Intn(len(l))] }

func (d *dice) once(in int) bool { return d.Intn(in) == 0 }

func one[T any](d *dice, l ...T) T { return l[d.Intn(len(l))] }

// rolled draws a configuration that may be.
func rolled(seed int64) *dice {
	d := &dice{Rand: rand.New(rand.NewSource(seed))}
	for d.c = d.config(); box.Check(d.c) != api.OK; d.c = d.config() {
	}
	return d
}

// host is the address of one who is on a port's link; 1 is the box itself.
func host(port, n, version int) api.IP {
	if version == 4 {
		return api.IP{V: 4, A: [16]byte{10, 0, byte(port), byte(n)}}
	}
	return api.IP{V: 6, A: [16]byte{0x20, 1, 0xd, 0xb8, 0, byte(port), 15: byte(n)}}
}

func hostMac(port, n int) api.Mac { return api.Mac{2, 9, 0, 0, byte(port), byte(n)} }

func (d *dice) config() api.Config {
	c := api.Config{Nat: -1, Contexts: d.of(1, 2, 8), Ticks: d.of(1, 3, 8)}
	c.Neigh = api.NeighConfig{Max: d.of(1, 3, 16, 16), Line: d.of(1, 2, 8), Every: d.of(1, 2, 3), Tries: d.of(1, 2, 3), Fresh: d.of(1, 4, 50)}
	for i := range d.of(1, 2, 3, 3) {
		p := api.PortConfig{Mac: hostMac(i, 1), MTU: d.of(1280, 1280, 1281, 1400, 1500, 9000), Vid: d.of(0, 0, 0, 7, 4094)}
		p.Rx, p.Tx, p.Pool, p.Size = d.of(1, 2, 8), d.of(1, 3, 16, 16), d.of(2, 4, 16, 64, 64), d.of(64, 90, 600, 1600, 1600, 1600, 1600, 1600, 1600, 9100, 9100, 9100, 9100, 9100)
		if !d.once(6) {
			p.Net4 = api.Prefix{IP: host(i, 1, 4), Len: d.of(24, 24, 24, 25)}
		}
		if !d.once(6) {
			p.Net6 = api.Prefix{IP: host(i, 1, 6), Len: d.of(64, 64, 120, 128)}
		}
		c.Ports = append(c.Ports, p)
	}
	last := len(c.Ports) - 1
	for _, r := range []api.Route{
		{Prefix: api.Prefix{IP: ip("198.51.100.0"), Len: 24}, Port: last, Via: host(last, 2, 4)},
		{Prefix: api.Prefix{IP: ip("2001:db8:9::"), Len: 48}, Port: last, Via: ip("fe80::2")},
		{Prefix: api.Prefix{IP: api.IP{V: 4}}, Port: 0, Via: host(0, 3, 4)}, {Prefix: api.Prefix{IP: host(0, 3, 4), Len: 32}, Port: last},
	} {
		own := c.Ports[r.Port].Net4.IP.V == 4 && r.Prefix.IP.V == 4 || c.Ports[r.Port].Net6.IP.V == 6 && r.Prefix.IP.V == 6
		if own && (r.Prefix.Len > 32 || r.Prefix.Len == 24 || d.once(5)) {
			c.Routes = append(c.Routes, r)
		}
	}
	if p := d.Intn(len(c.Ports)); d.once(2) && c.Ports[p].Net4.IP.V == 4 {
		c.Nat = one(d, p, last)
		c.Flow = api.FlowConfig{Max: d.of(1, 4, 50), Outside: one(d, host(c.Nat, 9, 4), ip("203.0.113.9")), Lo: 1000, Hi: d.of(1000, 1003, 1100), Syn: 2, Tcp: 9, Fin: 3, Udp: 4, Icmp: 2}
	}
	c.Rules = one(d, []string{"permit any"}, []string{"permit any"}, []string{"deny udp to any port 3", "reject tcp to any port 3", "permit class 1 udp", "permit any"},
		[]string{"permit class 2 icmp", "reject any on p1", "permit any"}, []string{"deny any pieces", "permit any vid 7", "permit ip6", "permit class 1 ip4"})
	for range d.of(1, 2, 3) {
		k := api.Class{Quantum: d.of(64, 600, 1500), Items: d.of(1, 4, 64), Bytes: d.of(1500, 20000, 1<<20)}
		if d.once(4) {
			k.Rate, k.Burst = d.of(1, 3000), 65535
		}
		c.Classes = append(c.Classes, k)
	}
	return c
}

// address is any address of a version: mostly that of a host, far or near.
func (d *dice) address(version int) api.IP {
	near := host(d.Intn(len(d.c.Ports)), d.of(2, 2, 3, 3, 4, 77), version)
	odd := []api.IP{host(d.Intn(len(d.c.Ports)), 1, version), ip("224.0.0.1"), ip("255.255.255.255"), ip("0.0.0.0"), ip("127.0.0.1"), ip("169.254.0.1"), ip("203.0.113.1"), ip("240.0.0.1")}
	far := ip("198.51.100.7")
	if version == 6 {
		odd = []api.IP{odd[0], ip("ff02::1"), ip("::"), ip("::1"), ip("fe80::2"), ip("2001:db8:77::1"), ip("::5")}
		far = ip("2001:db8:9::7")
	} else if d.c.Flow.Max > 0 {
		odd = append(odd, d.c.Flow.Outside, d.c.Flow.Outside)
	}
	switch d.Intn(12) {
	case 0:
		return one(d, odd...)
	case 1, 2, 3:
		return far
	}
	return near
}

// packet is a datagram that may be, of either version, to the box or another, with one of these numbers of bytes.
func (d *dice) packet(in int, sizes ...int) api.Packet {
	v := d.of(4, 6)
	src, dst := host(in, d.of(2, 3), v), d.address(v)
	if d.once(4) {
		src = d.address(v)
	}
	if d.once(6) {
		dst = host(d.Intn(len(d.c.Ports)), 1, v)
	}
	p := api.Packet{Kind: api.PIp4, Ip4: api.Ip4{Tos: d.Intn(256), ID: d.Intn(4), DF: d.once(4), TTL: d.of(0, 1, 2, 64, 64, 64, 255), Proto: d.of(6, 17, 1, 1, 47), Src: src, Dst: dst}}
	if v == 6 {
		p = api.Packet{Kind: api.PIp6, Ip6: api.Ip6{Class: d.Intn(256), Flow: d.Intn(1 << 20), Hop: d.of(0, 1, 2, 64, 64, 64, 255), Next: d.of(6, 17, 58, 58, 59), Src: src, Dst: dst}}
	}
	d.heads(&p)
	data := make([]byte, one(d, sizes...))
	d.Read(data)
	ports := []int{1, 3, 53, 1000, 1001, 5000}
	switch max(p.Ip4.Proto, p.Ip6.Next) {
	case 6:
		p.L4, p.Tcp = api.LTcp, api.Tcp{Sport: one(d, ports...), Dport: one(d, ports...), Flags: d.of(2, 2, 18, 16, 1, 4, 3), Data: data}
		if d.once(2) {
			p.Tcp.Opts = []api.Opt{mss(d.of(500, 1200, 1460, 9000))}
		}
	case 17:
		p.L4, p.Udp = api.LUdp, api.Udp{Sport: one(d, ports...), Dport: one(d, ports...), NoSum: v == 4 && d.once(4), Data: data}
	case 1, 58:
		p.L4, p.Icmp = api.LIcmp, api.Icmp{V: v, Type: d.of(8, 128, 8, 128, 0, 129, 3, 1, 137), Code: d.of(0, 0, 0, 0, 1), Rest: d.of(0, 1, 1000, 7) << 16, Data: data}
	default:
		p.Ip4.Data = data
		if v == 6 {
			p.Ip4.Data, p.Ip6.Data = nil, data
		}
	}
	return p
}

// heads draws options and extension headers.
func (d *dice) heads(p *api.Packet) {
	if !d.once(5) {
		return
	}
	if p.Kind == api.PIp4 {
		p.Ip4.Opts = []api.Opt{{Kind: 7, Data: []byte{4, 0}}, {Kind: 148, Data: []byte{0, 0}}}[:1+d.Intn(2)]
		return
	}
	options := []api.Opt{{Data: make([]byte, 6)}}
	p.Ip6.Exts = one(d, []api.Ext{{Kind: 0, Opts: options}}, []api.Ext{{Kind: 60, Opts: options}}, []api.Ext{{Kind: 0, Opts: options}, {Kind: 43, Data: make([]byte, 14)}}, []api.Ext{{Kind: 43, Data: make([]byte, 1230)}})
}

// cover is the frame of a packet that comes to a port: mostly to the port, with its tag.
func (d *dice) cover(in int, p api.Packet) []byte {
	p.Dst, p.Src = d.c.Ports[in].Mac, hostMac(in, d.of(2, 3))
	if d.once(20) {
		p.Dst = one(d, all, hostMac(in, 77), api.Mac{0x33, 0x33, 0, 0, 0, 1})
	}
	if vid := d.c.Ports[in].Vid; vid != 0 {
		p.Tags = []api.Tag{{TPID: 0x8100, PCP: d.Intn(8), VID: vid}}
	}
	if d.once(40) {
		p.Tags = one(d, nil, []api.Tag{{TPID: 0x8100, VID: 7}}, []api.Tag{{TPID: 0x88a8, VID: 7}, {TPID: 0x8100, VID: 7}})
	}
	b, e := packet.Serialise(p)
	if e != api.OK {
		return nil // too long for a frame
	}
	return b
}

// neighbourly is a frame by which neighbours are asked for and told.
func (d *dice) neighbourly(in int) []byte {
	n := d.of(2, 3, 4)
	mac := one(d, hostMac(in, n), hostMac(in, n), hostMac(in, n), hostMac(in, 5))
	if d.once(2) {
		other := one(d, host(in, 1, 4), host(in, 1, 4), host(in, 1, 4), d.address(4))
		sender := one(d, host(in, n, 4), host(in, n, 4), host(in, n, 4), d.address(4))
		return d.cover(in, api.Packet{Kind: api.PArp, Arp: api.Arp{Op: 1 + d.Intn(2), SMac: mac, SIP: sender, TIP: other}})
	}
	nd := api.ND{Kind: api.NDSolicit, Target: one(d, host(in, 1, 6), host(in, 1, 6), host(in, n, 6), ip("fe80::2")), HasMac: !d.once(4)}
	if d.once(2) {
		nd = api.ND{Kind: api.NDAdvertise, Target: one(d, host(in, n, 6), ip("fe80::2")), HasMac: !d.once(6), Solicited: d.once(2)}
	}
	if nd.HasMac {
		nd.Mac = one(d, mac, mac, mac, all)
	}
	m, _ := icmp.PutND(nd)
	if d.once(12) {
		m = one(d, api.Icmp{V: 6, Type: 135, Data: m.Data[:15]}, api.Icmp{V: 6, Type: 136, Code: 1, Data: m.Data})
	}
	to := one(d, host(in, 1, 6), ip("ff02::1"), d.address(6))
	from := one(d, host(in, n, 6), host(in, n, 6), host(in, n, 6), ip("fe80::2"), ip("::"))
	return d.cover(in, api.Packet{Kind: api.PIp6, Ip6: api.Ip6{Hop: d.of(255, 255, 255, 255, 255, 255, 64), Next: 58, Src: from, Dst: to}, L4: api.LIcmp, Icmp: m})
}

// cut lays the fragments of a datagram aside, in any order, some twice, some never.
func (d *dice) cut(in int, p api.Packet) {
	if p.Kind == api.PIp6 && d.once(10) {
		p.Ip6.Exts = []api.Ext{{Kind: 43, Data: make([]byte, 1230)}}
	}
	c, id := closed(p), d.Intn(3)
	l := pieces(p, d.of(576, 1280, 1304, 1400), id)
	if d.once(6) { // pieces that overlap
		l = append(l, pieces(p, d.of(1288, 1350), id)...)
	}
	if c.Kind == api.PIp6 && d.once(4) {
		c.Ip6.Frag = api.Frag{Has: true, ID: id}
		l = []api.Packet{c}
	}
	var frames [][]byte
	for _, q := range l {
		if c.Kind == api.PIp4 && c.Ip4.DF && q.Ip4.MF {
			q.Ip4.DF = true
		}
		for range d.of(1, 1, 1, 1, 1, 1, 2, 0) {
			frames = append(frames, d.cover(in, q))
		}
	}
	if d.once(2) {
		d.Shuffle(len(frames), func(i, j int) { frames[i], frames[j] = frames[j], frames[i] })
	}
	d.later[in] = append(d.later[in], frames...)
}

// frame is any frame that comes to a port.
func (d *dice) frame(in int) []byte {
	switch k := d.Intn(20); {
	case k == 0:
		b := make([]byte, d.Intn(100))
		d.Read(b)
		copy(b, d.c.Ports[in].Mac[:])
		return b
	case k == 1:
		b := slices.Clone(d.cover(in, d.packet(in, 10, 100)))
		if len(b) > 0 {
			b[d.Intn(min(len(b), 80))] ^= byte(1 << d.Intn(8))
		}
		return b
	case k < 6:
		return d.neighbourly(in)
	case k < 13 && len(d.later[in]) > 0:
		b := d.later[in][0]
		d.later[in] = d.later[in][1:]
		return b
	case k < 10:
		d.cut(in, d.packet(in, 100, 1200, 1300, 1400, 3000, 6000))
	}
	return d.cover(in, d.packet(in, 0, 10, 10, 10, 100, 600, 1200, 1240, 1300, 1452, 1480, 3000))
}

// reply is what somebody answers to a frame that left by a port, if anything.
func (d *dice) reply(port int, b []byte) []byte {
	p, e := packet.Parse(b)
	if e != api.OK {
		return nil
	}
	p.Tags = nil
	switch {
	case p.Kind == api.PArp && p.Arp.Op == 1:
		n := int(p.Arp.TIP.A[3])
		return d.cover(port, api.Packet{Kind: api.PArp, Arp: api.Arp{Op: 2, SMac: hostMac(port, n), SIP: p.Arp.TIP, TMac: p.Arp.SMac, TIP: p.Arp.SIP}})
	case p.L4 == api.LIcmp && p.Icmp.Type == 135:
		nd, _ := icmp.ParseND(p.Icmp)
		mac := hostMac(port, int(nd.Target.A[15]))
		p.Icmp, _ = icmp.PutND(api.ND{Kind: api.NDAdvertise, Target: nd.Target, Solicited: true, HasMac: true, Mac: mac})
		p.Ip6.Src, p.Ip6.Dst = nd.Target, p.Ip6.Src
		return d.cover(port, p)
	}
	t, ok := packet.Tuple(p)
	if !ok {
		return nil
	}
	return d.cover(port, d.answering(p, packet.Reverse(t)))
}

// answering is a packet with another tuple, as who answers would send it.
func (d *dice) answering(p api.Packet, t api.Tuple) api.Packet {
	if p.Kind == api.PIp4 {
		p.Ip4.Src, p.Ip4.Dst, p.Ip4.TTL = t.Src, t.Dst, 64
	} else {
		p.Ip6.Src, p.Ip6.Dst, p.Ip6.Hop = t.Src, t.Dst, 64
	}
	switch p.L4 {
	case api.LUdp:
		p.Udp.Sport, p.Udp.Dport = t.Sport, t.Dport
	case api.LTcp:
		p.Tcp.Sport, p.Tcp.Dport, p.Tcp.Flags = t.Sport, t.Dport, d.of(18, 18, 16, 1, 4)
	case api.LIcmp:
		p.Icmp.Type = map[int]int{8: 0, 128: 129}[p.Icmp.Type]
	}
	return p
}

// vouches tells what is wrong with a frame that leaves by a port (19.19); nothing, if it is right.
func vouches(c api.Config, port int, b []byte) string {
	n, e := packet.Normal(b)
	if e != api.OK || string(n) != string(b) {
		return "it is not canonical"
	}
	f, _ := link.Parse(b)
	p, _ := packet.Parse(b)
	if f.Src != c.Ports[port].Mac {
		return "it has another source"
	}
	if vid := c.Ports[port].Vid; vid == 0 && len(f.Tags) > 0 || vid != 0 && !slices.Equal(f.Tags, []api.Tag{{TPID: 0x8100, VID: vid}}) {
		return "it has not the port's tag"
	}
	if p.Kind != api.PArp && len(datagram(p)) > c.Ports[port].MTU {
		return "it does not fit the MTU"
	}
	return ""
}

// shared tells whether two flows of version 4 and of one protocol have the same outside port (W5).
func shared(l []api.Flow) bool {
	type place struct{ proto, port int }
	seen := map[place]int{}
	for _, f := range l {
		if f.Tuple.Src.V == 4 {
			seen[place{f.Tuple.Proto, f.Port}]++
		}
	}
	for _, n := range seen {
		if n > 1 {
			return true
		}
	}
	return false
}
