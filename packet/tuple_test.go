package packet_test

import (
	"math"
	"math/rand"
	"testing"

	"weir/api"
	"weir/packet"
)

// modelTuple is Tuple by the document's words.
func modelTuple(p api.Packet) (api.Tuple, bool) {
	src, dst, echoes, ping, pong := p.Ip4.Src, p.Ip4.Dst, 1, 8, 0
	if p.Kind == api.PIp6 {
		src, dst, echoes, ping, pong = p.Ip6.Src, p.Ip6.Dst, 58, 128, 129
	}
	id := int(uint32(p.Icmp.Rest) / 65536)
	switch {
	case p.Kind != api.PIp4 && p.Kind != api.PIp6:
	case p.L4 == api.LTcp:
		return api.Tuple{Proto: 6, Src: src, Dst: dst, Sport: p.Tcp.Sport, Dport: p.Tcp.Dport}, true
	case p.L4 == api.LUdp:
		return api.Tuple{Proto: 17, Src: src, Dst: dst, Sport: p.Udp.Sport, Dport: p.Udp.Dport}, true
	case p.L4 == api.LIcmp && p.Icmp.Code == 0 && p.Icmp.Type == ping:
		return api.Tuple{Proto: echoes, Src: src, Dst: dst, Sport: id}, true
	case p.L4 == api.LIcmp && p.Icmp.Code == 0 && p.Icmp.Type == pong:
		return api.Tuple{Proto: echoes, Src: src, Dst: dst, Dport: id}, true
	}
	return api.Tuple{}, false
}

// 10.8
func TestTuple(t *testing.T) {
	icmp4 := func(kind, code, rest int) api.Packet {
		return four(1, api.LIcmp, func(p *api.Packet) { p.Icmp.Type, p.Icmp.Code, p.Icmp.Rest = kind, code, rest })
	}
	icmp6 := func(kind, code, rest int) api.Packet {
		return six(58, api.LIcmp, func(p *api.Packet) { p.Icmp.Type, p.Icmp.Code, p.Icmp.Rest = kind, code, rest })
	}
	of4 := func(proto, sport, dport int) api.Tuple {
		return api.Tuple{Proto: proto, Src: ten, Dst: two, Sport: sport, Dport: dport}
	}
	of6 := func(proto, sport, dport int) api.Tuple {
		return api.Tuple{Proto: proto, Src: left, Dst: right, Sport: sport, Dport: dport}
	}
	none := api.Tuple{}
	rows := []struct {
		p    api.Packet
		want api.Tuple
	}{
		{four(6, 3, func(p *api.Packet) { p.Tcp.Sport, p.Tcp.Dport = 80, 1024 }), of4(6, 80, 1024)}, {six(6, 3, func(p *api.Packet) { p.Tcp.Sport, p.Tcp.Dport = 80, 1024 }), of6(6, 80, 1024)}, {four(17, 2, func(p *api.Packet) { p.Udp.Sport, p.Udp.Dport = 1, 2 }), of4(17, 1, 2)}, {six(17, 2, func(p *api.Packet) { p.Udp.Sport, p.Udp.Dport = 1, 2 }), of6(17, 1, 2)},
		{icmp4(8, 0, 0x00070001), of4(1, 7, 0)}, {icmp4(0, 0, 0x00070001), of4(1, 0, 7)}, {icmp6(128, 0, 0x00070001), of6(58, 7, 0)}, {icmp6(129, 0, 0x00070001), of6(58, 0, 7)}, {icmp4(8, 0, 0), of4(1, 0, 0)}, {icmp6(129, 0, 0xffff), of6(58, 0, 0)},
		{icmp4(3, 0, 1<<16), none}, {icmp4(8, 1, 1<<16), none}, {icmp4(0, -1, 1<<16), none}, {icmp4(128, 0, 1<<16), none}, {icmp4(129, 0, 1<<16), none}, {icmp6(8, 0, 1<<16), none}, {icmp6(0, 0, 1<<16), none}, {icmp6(128, 1, 1<<16), none}, {icmp6(129, 256, 1<<16), none}, {icmp6(135, 0, 1<<16), none}, {icmp4(8+256, 0, 0), none},
		{icmp4(8, 0, 0xffffffff), of4(1, 65535, 0)}, {icmp4(8, 0, 1<<32), of4(1, 0, 0)}, {icmp4(8, 0, 1<<32+5<<16+1), of4(1, 5, 0)}, {icmp4(0, 0, -1), of4(1, 0, 65535)}, {icmp6(128, 0, -65536), of6(58, 65535, 0)}, {icmp6(128, 0, -65537), of6(58, 65534, 0)}, {icmp6(129, 0, math.MinInt), of6(58, 0, 0)}, {icmp6(129, 0, math.MaxInt), of6(58, 0, 65535)},
		{arp(asIs), none}, {four(50, 0, asIs), none}, {six(59, 0, asIs), none}, {api.Packet{}, none}, {api.Packet{Kind: 1, L4: 2, Udp: api.Udp{Sport: 1}}, none}, {api.Packet{Kind: 4, L4: 2, Udp: api.Udp{Sport: 1}}, none}, {api.Packet{Kind: 0, L4: 3, Tcp: api.Tcp{Sport: 1}}, none}, {api.Packet{Kind: 2, L4: 4, Tcp: api.Tcp{Sport: 1}}, none}, {api.Packet{Kind: 3, L4: -1}, none},
		{api.Packet{Src: all, Kind: 2, L4: 2, Ip4: api.Ip4{Proto: 6, MF: true, Src: left, Dst: api.IP{V: 9}}, Udp: api.Udp{Sport: -1, Dport: 1 << 40}}, api.Tuple{Proto: 17, Src: left, Dst: api.IP{V: 9}, Sport: -1, Dport: 1 << 40}}, {api.Packet{Kind: 2, L4: 1, Ip4: api.Ip4{Proto: 17}, Icmp: api.Icmp{V: 6, Type: 8, Rest: 9 << 16}}, api.Tuple{Proto: 1, Sport: 9}}, {api.Packet{Kind: 3, L4: 1, Ip4: api.Ip4{Src: ten}, Icmp: api.Icmp{V: 4, Type: 128, Rest: 9 << 16}}, api.Tuple{Proto: 58, Sport: 9}},
	}
	for i, r := range rows {
		x, ok := packet.Tuple(r.p)
		if x != r.want || ok != (r.want != none) {
			t.Errorf("%d: Tuple = %v, %t, want %v", i, x, ok, r.want)
		}
	}
	if x, ok := packet.Tuple(api.Packet{Kind: 2, L4: 3}); !ok || x != (api.Tuple{Proto: 6}) {
		t.Errorf("a segment without anything: %v, %t", x, ok)
	}
}

// 10.8: each type and code.
func TestTupleOfEachMessage(t *testing.T) {
	for kind := -1; kind <= 257; kind++ {
		for code := -1; code <= 2; code++ {
			for _, p := range []api.Packet{four(1, 1, asIs), six(58, 1, asIs)} {
				p.Icmp.Type, p.Icmp.Code, p.Icmp.Rest = kind, code, 0x12345678
				want, is := modelTuple(p)
				if x, ok := packet.Tuple(p); x != want || ok != is {
					t.Errorf("type %d, code %d of version %d: %v, %t", kind, code, p.Icmp.V, x, ok)
				}
			}
		}
	}
}

// 10.8: nothing else of a packet is asked.
func TestTupleOfSome(t *testing.T) {
	r := rand.New(rand.NewSource(13))
	found := 0
	for range 10000 {
		p := turned(r, somePacket(r), r.Intn(4))
		want, is := modelTuple(p)
		if x, ok := packet.Tuple(p); x != want || ok != is {
			t.Fatalf("Tuple(%+v) = %v, %t, want %v, %t", p, x, ok, want, is)
		} else if ok {
			found++
		}
	}
	if found < 1000 || found > 8000 {
		t.Errorf("%d of 10000", found)
	}
}

// 10.8
func TestReverse(t *testing.T) {
	for _, x := range []api.Tuple{{}, {Proto: 6, Src: ten, Dst: left, Sport: 1, Dport: 2}, {Proto: -1, Dst: two, Sport: 1 << 40, Dport: -9}} {
		want := api.Tuple{Proto: x.Proto, Src: x.Dst, Dst: x.Src, Sport: x.Dport, Dport: x.Sport}
		if y := packet.Reverse(x); y != want || packet.Reverse(y) != x {
			t.Errorf("Reverse(%v) = %v", x, y)
		}
	}
	ping := four(1, 1, func(p *api.Packet) { p.Icmp.Type, p.Icmp.Rest = 8, 7<<16 })
	pong := four(1, 1, func(p *api.Packet) { p.Ip4.Src, p.Ip4.Dst, p.Icmp.Rest = two, ten, 7<<16 })
	x, _ := packet.Tuple(ping)
	if y, _ := packet.Tuple(pong); packet.Reverse(x) != y {
		t.Errorf("%v is not what answers %v", y, x)
	}
}
