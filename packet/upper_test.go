package packet_test

import (
	"bytes"
	"math/rand"
	"reflect"
	"testing"

	"weir/api"
	"weir/packet"
)

// loosen is a packet that is not open: its upper layer's bytes are Data.
func loosen(r *rand.Rand, p api.Packet) api.Packet {
	b := writer{r}.upper(p)
	p.L4, p.Icmp, p.Udp, p.Tcp = api.LNone, api.Icmp{}, api.Udp{}, api.Tcp{}
	switch p.Kind {
	case api.PIp4:
		p.Ip4.Data = b
	case api.PIp6:
		p.Ip6.Data = b
	}
	return p
}

// 10.1: the upper layer of each protocol is read, that of a fragment is not.
func TestOpen(t *testing.T) {
	r := rand.New(rand.NewSource(8))
	for range 10000 {
		p := somePacket(r)
		if q, e := packet.Open(loosen(r, p)); e != api.OK || !same(q, p) {
			t.Fatalf("Open of %+v, closed: %+v, %d", p, q, e)
		}
		if q, e := packet.Open(p); e != api.OK || !same(q, p) {
			t.Fatalf("Open(%+v) = %+v, %d", p, q, e)
		}
	}
}

// 10.1: what stands there, asked by protocol and fragment alone.
func TestOpenRows(t *testing.T) {
	hi := hx("0001 0002 000a 836b 6869")
	noSum := hx("0001 0002 000a 0000 6869 09")
	echo := hx("0800f7fd 00010001")
	udp := func(p api.Packet, u api.Udp) api.Packet {
		p.L4, p.Udp, p.Ip4.Data, p.Ip6.Data = api.LUdp, u, nil, nil
		return p
	}
	with4 := func(proto int, data []byte, f func(*api.Packet)) api.Packet {
		return four(proto, 0, func(p *api.Packet) {
			p.Ip4.Data = data
			f(p)
		})
	}
	with6 := func(next int, data []byte, f func(*api.Packet)) api.Packet {
		return six(next, 0, func(p *api.Packet) {
			p.Ip6.Data = data
			f(p)
		})
	}
	wild := func(p *api.Packet) { // none of this is asked
		p.Src, p.Tags, p.Arp.Op, p.Tcp.Seq, p.Udp.Sport, p.Icmp.Rest = all, make([]api.Tag, 5), 9, -1, -1, -1
		p.Ip4.TTL, p.Ip4.Off, p.Ip4.Tos, p.Ip4.ID, p.Ip4.Opts = 999, -8, -1, -1, make([]api.Opt, 99)
		p.Ip6.Next, p.Ip6.Frag = 58, api.Frag{Has: true}
	}
	hiUdp, noSumUdp := api.Udp{Sport: 1, Dport: 2, Data: []byte("hi")}, api.Udp{Sport: 1, Dport: 2, NoSum: true, Data: []byte("hi")}
	type row struct {
		p    api.Packet
		want api.Packet
		e    api.Errno
	}
	as := func(p api.Packet) row { return row{p, p, api.OK} }
	fails := func(p api.Packet, e api.Errno) row { return row{p, api.Packet{}, e} }
	rows := []row{
		as(api.Packet{}), as(arp(asIs)), as(api.Packet{Kind: 4, Ip4: api.Ip4{Proto: 17}, Ip6: api.Ip6{Next: 17}}), as(api.Packet{Kind: -1}), as(api.Packet{Kind: api.PArp, Ip4: api.Ip4{Proto: 17}, Ip6: api.Ip6{Next: 17}}),
		{with4(17, hi, asIs), udp(four(17, 0, asIs), hiUdp), api.OK}, {with4(17, noSum, asIs), udp(four(17, 0, asIs), noSumUdp), api.OK}, {with4(17, hi, wild), udp(four(17, 0, wild), hiUdp), api.OK},
		as(with4(17, hi, func(p *api.Packet) { p.Ip4.MF = true })), as(with4(17, hi, func(p *api.Packet) { p.Ip4.Off = 1 })), as(with4(17, hi, func(p *api.Packet) { p.Ip4.MF, p.Ip4.Off = true, 8 })), {with4(17, hi, func(p *api.Packet) { p.Ip4.Off = -1 }), udp(four(17, 0, func(p *api.Packet) { p.Ip4.Off = -1 }), hiUdp), api.OK}, {with4(17, hi, func(p *api.Packet) { p.Ip6.Frag.Has = true }), udp(four(17, 0, func(p *api.Packet) { p.Ip6.Frag.Has = true }), hiUdp), api.OK},
		as(with4(17, hi, func(p *api.Packet) { p.L4 = api.LUdp })), as(with4(17, hi, func(p *api.Packet) { p.L4 = api.LTcp })), as(with4(17, hi, func(p *api.Packet) { p.L4 = 4 })), as(with4(17, nil, func(p *api.Packet) { p.L4 = -1 })),
		as(with4(50, hi, asIs)), as(with4(58, echo, asIs)), as(with4(-1, hi, asIs)), as(with4(17+256, hi, asIs)), as(with6(1, echo, asIs)), as(with6(59, nil, asIs)), as(with6(44, hi, asIs)), as(with6(0, hi, asIs)),
		{with4(1, echo, func(p *api.Packet) { p.Ip4.Src = api.IP{V: 9} }), four(1, 1, func(p *api.Packet) { p.Ip4.Src, p.Icmp.Type, p.Icmp.Rest = api.IP{V: 9}, 8, 65537 }), api.OK},
		as(with6(17, hi, func(p *api.Packet) { p.Ip6.Frag.Has = true })), fails(with6(17, hi, func(p *api.Packet) { p.Ip6.Frag = api.Frag{More: true, Off: 8, ID: 1} }), api.ErrUdpSum), fails(with6(17, hi, func(p *api.Packet) { p.Ip4.MF = true }), api.ErrUdpSum), fails(with6(17, noSum, asIs), api.ErrUdpSum),
		fails(with4(17, nil, asIs), api.ErrUdpShort), fails(with4(17, hi[:9], asIs), api.ErrUdpLength), fails(with4(17, hi, func(p *api.Packet) { p.Ip4.Dst = left }), api.ErrFamily), fails(with4(17, hi, func(p *api.Packet) { p.Ip4.Src = left }), api.ErrFamily), fails(with4(17, hi, func(p *api.Packet) { p.Ip4.Src.A[9] = 1 }), api.ErrFamily), fails(with4(17, hi, func(p *api.Packet) { p.Ip4.Src, p.Ip4.Dst = two, ip("10.0.0.3") }), api.ErrUdpSum),
		fails(with4(6, nil, asIs), api.ErrTcpShort), fails(with4(6, make([]byte, 20), asIs), api.ErrTcpHead), fails(with6(6, make([]byte, 19), asIs), api.ErrTcpShort), fails(with6(6, make([]byte, 20), func(p *api.Packet) { p.Ip6.Src = ten }), api.ErrFamily),
		fails(with4(1, echo[:7], asIs), api.ErrIcmpShort), fails(with4(1, hi, asIs), api.ErrIcmpSum), fails(with6(58, echo, asIs), api.ErrIcmpSum), fails(with6(58, echo, func(p *api.Packet) { p.Ip6.Dst = two }), api.ErrFamily), fails(with6(58, make([]byte, 65516), asIs), api.ErrLong), fails(with4(17, make([]byte, 65536), asIs), api.ErrLong), fails(with6(6, make([]byte, 65536), asIs), api.ErrLong),
	}
	for i, r := range rows {
		p, kept := roomy(r.p)
		q, e := packet.Open(p)
		if e != r.e || !same(q, r.want) || e != api.OK && !nothing(q) {
			t.Errorf("%d: Open = %+v, %d, want %+v, %d", i, q, e, r.want, r.e)
		}
		if !kept() {
			t.Errorf("%d: it was changed", i)
		}
	}
}

// 10.1: wild packets, whatever stands in them.
func TestOpenOfTurned(t *testing.T) {
	r := rand.New(rand.NewSource(9))
	opened := 0
	for range 10000 {
		p := turned(r, loosen(r, somePacket(r)), r.Intn(3))
		q, e := packet.Open(p)
		want, f := modelOpen(p)
		if e != f || !same(q, want) {
			t.Fatalf("Open(%+v) = %+v, %d, want %+v, %d", p, q, e, want, f)
		}
		if e == api.OK && q.L4 != p.L4 {
			opened++
		}
	}
	if opened < 2000 {
		t.Errorf("opened were %d", opened)
	}
}

// handedOn tells whether the lists of two packets that no upper layer has are one in memory, Data but where it was read or written.
func handedOn(p, q api.Packet, data bool) bool {
	return sharesList(p.Tags, q.Tags) && sharesList(p.Ip4.Opts, q.Ip4.Opts) && sharesList(p.Ip6.Exts, q.Ip6.Exts) &&
		(!data || sharesList(p.Ip4.Data, q.Ip4.Data) && sharesList(p.Ip6.Data, q.Ip6.Data))
}

// dataOf is the Data of a packet's datagram.
func dataOf(p *api.Packet) []byte {
	if p.Kind == api.PIp4 {
		return p.Ip4.Data
	}
	return p.Ip6.Data
}

// 10.1, 10.13: lists are handed on; what was read are windows.
func TestOpenHandsOn(t *testing.T) {
	r := rand.New(rand.NewSource(10))
	for range 3000 {
		p, kept := roomy(loosen(r, somePacket(r)))
		q, e := packet.Open(p)
		if e != api.OK || !kept() || !handedOn(p, q, q.L4 == api.LNone) {
			t.Fatalf("Open(%+v) = %+v, %d: lists are not p's own", p, q, e)
		}
		if q.L4 == api.LNone {
			continue
		}
		if len(dataOf(&q)) > 0 {
			t.Fatalf("Data is left: %+v", q)
		}
		data := dataOf(&p)
		read := api.Packet{Icmp: q.Icmp, Udp: q.Udp, Tcp: q.Tcp}
		for _, l := range byteLists(&read) {
			if !windowOf(data, l) || cap(l) != len(l) {
				t.Fatalf("%+v: a list of %d bytes, capacity %d, is no window", q, len(l), cap(l))
			}
		}
	}
}

// 10.6: what Close answers, and Open makes of it again; lists are handed on, the upper layer's bytes are new memory.
func TestClose(t *testing.T) {
	r := rand.New(rand.NewSource(11))
	for range 3000 {
		p, kept := roomy(somePacket(r))
		c, e := packet.Close(p)
		if e != api.OK || !same(c, loosen(nil, p)) || !kept() {
			t.Fatalf("Close(%+v) = %+v, %d", p, c, e)
		}
		if c.L4 != api.LNone || !handedOn(p, c, p.L4 == api.LNone) {
			t.Fatalf("Close(%+v) = %+v: lists are not p's own", p, c)
		}
		if q, e := packet.Open(c); e != api.OK || !same(q, p) {
			t.Fatalf("Open(Close(%+v)) = %+v, %d", p, q, e)
		}
		if p.L4 != api.LNone {
			b := dataOf(&c)
			scrawl(reflect.ValueOf(b[:cap(b)]))
			if !kept() {
				t.Fatalf("Close(%+v) shares its upper layer's memory", p)
			}
		}
	}
}

// 10.6
func TestCloseRows(t *testing.T) {
	c, e := packet.Close(four(17, api.LUdp, func(p *api.Packet) { p.Udp = api.Udp{Sport: 1, Dport: 2, Data: []byte("hi")} }))
	if e != api.OK || !bytes.Equal(c.Ip4.Data, hx("0001 0002 000a 836b 6869")) || !same(c, four(17, 0, func(p *api.Packet) { p.Ip4.Data = c.Ip4.Data })) {
		t.Errorf("a UDP datagram: %+v, %d", c, e)
	}
	for _, p := range []api.Packet{arp(asIs), four(50, 0, asIs), six(17, 0, func(p *api.Packet) { p.Ip6.Frag.Has = true })} {
		if c, e := packet.Close(p); e != api.OK || !same(c, p) {
			t.Errorf("Close(%+v) = %+v, %d", p, c, e)
		}
	}
	if c, e := packet.Close(loosen(nil, four(17, 2, asIs))); e != api.ErrMixed || !nothing(c) {
		t.Errorf("what is closed already: %+v, %d", c, e)
	}
}
