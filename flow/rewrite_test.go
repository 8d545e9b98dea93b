package flow_test

import (
	"math"
	"math/rand"
	"reflect"
	"testing"

	"weir/api"
	"weir/flow"
	"weir/packet"
)

// rewrites wants p to be rewritten into want, of which nothing but the tuple is another.
func rewrites(t *testing.T, p api.Packet, x api.Tuple, want api.Packet) {
	t.Helper()
	q, e := flow.Rewrite(p, x)
	if e != api.OK || !packet.Same(q, want) {
		t.Errorf("Rewrite(%+v, %v) = %+v, %d\nwant %+v", p, x, q, e, want)
	}
	if y, ok := packet.Tuple(q); y != x || !ok {
		t.Errorf("Rewrite(%+v, %v) has the tuple %v", p, x, y)
	}
}

func refusesRewrite(t *testing.T, p api.Packet, x api.Tuple) {
	t.Helper()
	if q, e := flow.Rewrite(p, x); e != api.ErrRewrite || !reflect.DeepEqual(q, api.Packet{}) {
		t.Errorf("Rewrite(%+v, %v) = %+v, %d", p, x, q, e)
	}
}

// with is p, turned.
func with(p api.Packet, turn func(*api.Packet)) api.Packet {
	turn(&p)
	return p
}

// of is a packet with each list that may be, of a version and an upper layer.
func of(version, layer int) api.Packet {
	p := api.Packet{
		Dst: api.Mac{2, 2, 2, 2, 2, 2}, Src: api.Mac{2, 1, 1, 1, 1, 1}, L4: layer,
		Tags: []api.Tag{{TPID: 0x88a8, PCP: 3, VID: 9}, {TPID: 0x8100, DEI: true, VID: 7}},
	}
	proto := []int{50, 1, 17, 6}[layer]
	if version == 4 {
		p.Kind = api.PIp4
		p.Ip4 = api.Ip4{Tos: 7, ID: 99, DF: true, TTL: 12, Proto: proto, Src: a, Dst: r, Opts: []api.Opt{{Kind: 7, Data: []byte{4, 1}}, {Kind: 130, Data: []byte{1, 2, 3}}}}
	} else {
		p.Kind = api.PIp6
		p.Ip6 = api.Ip6{Class: 5, Flow: 77, Hop: 13, Next: proto, Src: six(1), Dst: six(2), Exts: []api.Ext{
			{Kind: 0, Opts: []api.Opt{{Kind: 5, Data: []byte{0, 0}}, {Kind: 0, Data: []byte{0, 0}}}}, {Kind: 43, Data: []byte{1, 2, 3, 4, 5, 6}},
		}}
	}
	switch layer {
	case api.LIcmp:
		p.Icmp = api.Icmp{V: version, Type: 8, Rest: 0x00070003, Data: []byte("ask")}
		if version == 6 {
			p.Ip6.Next, p.Icmp.Type = 58, 128
		}
	case api.LUdp:
		p.Udp = api.Udp{Sport: 5, Dport: 6, Data: []byte("udp")}
	case api.LTcp:
		p.Tcp = api.Tcp{Sport: 5, Dport: 6, Seq: 1 << 31, Ack: 3, Flags: 0x1f, Win: 4, Urg: 5, Opts: []api.Opt{{Kind: 2, Data: []byte{5, 6}}, {Kind: 77, Data: []byte{1}}}, Data: []byte("tcp")}
	}
	return p
}

// answering is an echo that answers, of an echo that asks.
func answering(p api.Packet) api.Packet {
	p.Icmp.Type = map[int]int{8: 0, 128: 129}[p.Icmp.Type]
	return p
}

// 17.7: the addresses, and the ports; nothing else; of the ordinary and of the numbers' ends.
func TestRewritePorts(t *testing.T) {
	for _, ports := range [][2]int{{1000, 53}, {0, 0}, {65535, 65535}, {0, 65535}, {5, 6}} {
		u, c := of(4, api.LUdp), of(4, api.LTcp)
		rewrites(t, u, tup(17, outside, ports[0], b, ports[1]), with(u, func(p *api.Packet) {
			p.Ip4.Src, p.Ip4.Dst, p.Udp.Sport, p.Udp.Dport = outside, b, ports[0], ports[1]
		}))
		rewrites(t, c, tup(6, outside, ports[0], b, ports[1]), with(c, func(p *api.Packet) {
			p.Ip4.Src, p.Ip4.Dst, p.Tcp.Sport, p.Tcp.Dport = outside, b, ports[0], ports[1]
		}))
		u, c = of(6, api.LUdp), of(6, api.LTcp)
		rewrites(t, u, tup(17, six(8), ports[0], six(9), ports[1]), with(u, func(p *api.Packet) {
			p.Ip6.Src, p.Ip6.Dst, p.Udp.Sport, p.Udp.Dport = six(8), six(9), ports[0], ports[1]
		}))
		rewrites(t, c, tup(6, six(8), ports[0], six(9), ports[1]), with(c, func(p *api.Packet) {
			p.Ip6.Src, p.Ip6.Dst, p.Tcp.Sport, p.Tcp.Dport = six(8), six(9), ports[0], ports[1]
		}))
	}
	nosum := with(of(4, api.LUdp), func(p *api.Packet) { p.Udp.NoSum = true })
	rewrites(t, nosum, tup(17, a, 5, r, 7), with(nosum, func(p *api.Packet) { p.Udp.Dport = 7 }))
}

// 17.7: of an echo its id, on the side of who asked; the lower bits of Rest stay.
func TestRewriteEchoes(t *testing.T) {
	for _, id := range []int{0, 1, 7, 1000, 65535} {
		for _, rest := range []int{0, 3, 0xffff, 0x70003, 0xffff0000, 0xffffffff} {
			ask4 := with(of(4, api.LIcmp), func(p *api.Packet) { p.Icmp.Rest = rest })
			ask6 := with(of(6, api.LIcmp), func(p *api.Packet) { p.Icmp.Rest = rest })
			four := func(p *api.Packet) { p.Ip4.Src, p.Ip4.Dst, p.Icmp.Rest = outside, b, id<<16|rest%65536 }
			sixth := func(p *api.Packet) { p.Ip6.Src, p.Ip6.Dst, p.Icmp.Rest = six(8), six(9), id<<16|rest%65536 }
			rewrites(t, ask4, tup(1, outside, id, b, 0), with(ask4, four))
			rewrites(t, answering(ask4), tup(1, outside, 0, b, id), with(answering(ask4), four))
			rewrites(t, ask6, tup(58, six(8), id, six(9), 0), with(ask6, sixth))
			rewrites(t, answering(ask6), tup(58, six(8), 0, six(9), id), with(answering(ask6), sixth))
			if id > 0 {
				for _, other := range []int{0, 1, id, 65535} {
					refusesRewrite(t, ask4, tup(1, outside, other, b, id))
					refusesRewrite(t, answering(ask4), tup(1, outside, id, b, other))
					refusesRewrite(t, ask6, tup(58, six(8), other, six(9), id))
					refusesRewrite(t, answering(ask6), tup(58, six(8), id, six(9), other))
				}
			}
		}
	}
}

// carriers are a packet of each version and upper layer that has a tuple.
func carriers() []api.Packet {
	var l []api.Packet
	for _, version := range []int{4, 6} {
		for _, layer := range []int{api.LIcmp, api.LUdp, api.LTcp} {
			l = append(l, of(version, layer))
		}
		l = append(l, answering(of(version, api.LIcmp)))
	}
	return l
}

// 17.7: what is no tuple, or one of another protocol or version.
func TestRewriteTuples(t *testing.T) {
	for _, p := range carriers() {
		mine, ok := packet.Tuple(p)
		if !ok || packet.Check(p) != api.OK {
			t.Fatalf("%+v has no tuple, or may not be: %d", p, packet.Check(p))
		}
		rewrites(t, p, mine, p)
		for _, x := range oddTuples() {
			x.Proto = mine.Proto
			refusesRewrite(t, p, x)
		}
		for _, proto := range []int{math.MinInt, -1, 0, 1, 6, 17, 47, 58, 256 + mine.Proto, 1<<32 + mine.Proto, math.MaxInt} {
			if x := mine; proto != mine.Proto {
				x.Proto = proto
				refusesRewrite(t, p, x)
			}
		}
		x := mine
		x.Src, x.Dst = six(1), six(2)
		if mine.Src.V == 6 {
			x.Src, x.Dst = a, r
		}
		refusesRewrite(t, p, x)
		for _, x.Proto = range []int{1, 58} {
			refusesRewrite(t, p, x)
		}
	}
}

// 17.7: a packet that may not be, or that has no tuple.
func TestRewritePackets(t *testing.T) {
	x := tup(17, outside, 1000, b, 53)
	for _, turn := range []func(*api.Packet){
		func(p *api.Packet) { *p = api.Packet{} },
		func(p *api.Packet) { p.Src = api.Mac{1} },
		func(p *api.Packet) { p.Tags = append(p.Tags, p.Tags[1]) },
		func(p *api.Packet) { p.Kind = 4 },
		func(p *api.Packet) { p.Kind = api.PIp6 },
		func(p *api.Packet) { p.Arp.Op = 1 },
		func(p *api.Packet) { p.Icmp.Type = 8 },
		func(p *api.Packet) { p.Tcp.Win = 1 },
		func(p *api.Packet) { p.Ip6.Hop = 1 },
		func(p *api.Packet) { p.Ip4.Data = []byte{1} },
		func(p *api.Packet) { p.Ip4.Proto = 6 },
		func(p *api.Packet) { p.Ip4.MF = true },
		func(p *api.Packet) { p.Ip4.TTL = 256 },
		func(p *api.Packet) { p.Ip4.Src = api.IP{} },
		func(p *api.Packet) { p.Ip4.Dst = six(1) },
		func(p *api.Packet) { p.Udp.Sport = -1 },
		func(p *api.Packet) { p.Udp.Dport = 65536 },
		func(p *api.Packet) { p.Udp.Data = make([]byte, 65535) },
		func(p *api.Packet) { p.L4, p.Udp = api.LNone, api.Udp{} },
		func(p *api.Packet) { *p = of(4, api.LNone) },
	} {
		refusesRewrite(t, with(of(4, api.LUdp), turn), x)
	}
	arp := api.Packet{Src: api.Mac{2}, Kind: api.PArp, Arp: api.Arp{Op: 1, SMac: api.Mac{2}, SIP: a, TIP: b}}
	piece := with(of(4, api.LNone), func(p *api.Packet) { p.Ip4.DF, p.Ip4.Proto, p.Ip4.Off, p.Ip4.Data = false, 17, 8, []byte{1} })
	none := with(of(4, api.LNone), func(p *api.Packet) { p.Ip4.Data = []byte{1} })
	for _, p := range []api.Packet{arp, piece, none} {
		if e := packet.Check(p); e != api.OK {
			t.Fatalf("%+v may not be: %d", p, e)
		}
		refusesRewrite(t, p, x)
	}
	for kind := range 256 {
		for code := range 3 {
			for _, p := range []api.Packet{of(4, api.LIcmp), of(6, api.LIcmp)} {
				y, _ := packet.Tuple(p)
				p.Icmp.Type, p.Icmp.Code = kind, code
				switch asks, answers := p.Icmp.V == 4 && kind == 8 || p.Icmp.V == 6 && kind == 128, p.Icmp.V == 4 && kind == 0 || p.Icmp.V == 6 && kind == 129; {
				case code == 0 && asks:
					rewrites(t, p, y, p)
				case code == 0 && answers:
					y.Sport, y.Dport = 0, y.Sport
					rewrites(t, p, y, p)
				default:
					refusesRewrite(t, p, y)
					refusesRewrite(t, p, back(y))
				}
			}
		}
	}
}

// 17.7: a packet that was rewritten may be, has right sums, and is rewritten back into what it was.
func TestRewriteBack(t *testing.T) {
	d := dice{rand.New(rand.NewSource(177))}
	for range 3000 {
		for _, p := range carriers() {
			mine, _ := packet.Tuple(p)
			x := d.like(mine)
			q, e := flow.Rewrite(p, x)
			if e != api.OK {
				t.Fatalf("Rewrite(%+v, %v): %d", p, x, e)
			}
			frame, e := packet.Serialise(q)
			if e != api.OK {
				t.Fatalf("Serialise(%+v): %d", q, e)
			}
			if read, e := packet.Parse(frame); e != api.OK || !packet.Same(read, q) { // it asks the sums
				t.Fatalf("read is %+v, %d; written was %+v", read, e, q)
			}
			rewrites(t, q, mine, p)
		}
	}
}

// like is a drawn tuple that a packet of that tuple may get.
func (d dice) like(x api.Tuple) api.Tuple {
	for _, ip := range []*api.IP{&x.Src, &x.Dst} {
		n := 4
		if ip.V == 6 {
			n = 16
		}
		d.Read(ip.A[:n])
	}
	if x.Proto == 6 || x.Proto == 17 || x.Sport != 0 {
		x.Sport = d.Intn(65536)
	}
	if x.Proto == 6 || x.Proto == 17 || x.Dport != 0 {
		x.Dport = d.Intn(65536)
	}
	return x
}
