package rules_test

import (
	"math"
	"strconv"
	"testing"

	"weir/api"
	"weir/rules"
)

// 16.7: the document's set.
func TestJudgeOfTheDocument(t *testing.T) {
	s := set(t, "permit tcp to any port 80", "reject tcp")
	judges(t, s, 0, tcp(), api.Verdict{Act: api.APermit})
	judges(t, s, 0, with(tcp(), func(p *api.Packet) { p.Tcp.Dport = 81 }), api.Verdict{Act: api.AReject, Rule: 1})
	judges(t, s, 0, with(tcp(), func(p *api.Packet) { p.Ip4.MF, p.L4, p.Tcp = true, api.LNone, api.Tcp{} }), api.Verdict{Act: api.AReject, Rule: 1})
	judges(t, s, 0, udp(), denied)
}

// 16.7, 16.9: without a rule that matches a packet is denied, by no rule.
func TestJudgeWithoutRules(t *testing.T) {
	for _, s := range []*rules.Set{set(t), made(t), set(t, "permit udp vid 5", "reject arp on p3"), set(t, "# permit any")} {
		judges(t, s, 0, tcp(), denied)
		judges(t, s, 0, udp(), denied)
		judges(t, s, 0, api.Packet{}, denied)
	}
}

// 16.7: the verdict has the act, the class and the number of the rule.
func TestVerdict(t *testing.T) {
	s := set(t, "permit class 7 any on p0", "# a rule has its number among rules", "deny any on p1", "reject any on p2", "permit any on p3")
	judges(t, s, 0, tcp(), api.Verdict{Act: api.APermit, Class: 7})
	judges(t, s, 1, tcp(), api.Verdict{Act: api.ADeny, Rule: 1})
	judges(t, s, 2, tcp(), api.Verdict{Act: api.AReject, Rule: 2})
	judges(t, s, 3, tcp(), api.Verdict{Act: api.APermit, Rule: 3})
	judges(t, s, 4, tcp(), denied)
	full := set(t, append(lines("deny arp", 255), "permit class 2 any")...)
	judges(t, full, 0, tcp(), api.Verdict{Act: api.APermit, Class: 2, Rule: 255})
}

// 16.7: the port by which it came in.
func TestJudgePort(t *testing.T) {
	for on := range api.MaxPorts {
		line := "permit any on p" + strconv.Itoa(on)
		for _, port := range []int{-2, -1, 0, 1, 2, 3, 4, 5, 6, 7, 8, math.MaxInt, math.MinInt} {
			matches(t, line, port, tcp(), port == on)
		}
	}
	for _, port := range []int{-1, 0, 7, 8, math.MaxInt, math.MinInt} {
		matches(t, "permit any", port, api.Packet{}, true)
	}
}

// 16.7: the VID of the first tag alone.
func TestJudgeVid(t *testing.T) {
	matches(t, "permit any vid 7", 0, ask(), true)
	matches(t, "permit any vid 8", 0, ask(), false)
	matches(t, "permit any vid 7", 0, tcp(), false)
	matches(t, "permit any", 0, ask(), true)
	matches(t, "permit any vid 4094", 0, with(tcp(), func(p *api.Packet) { p.Tags = []api.Tag{{VID: 4094}} }), true)
	matches(t, "permit any vid 1", 0, with(tcp(), func(p *api.Packet) { p.Tags = []api.Tag{{}} }), false)
}

// 16.7: kinds and protocols, of packets of every kind.
func TestJudgeKindAndProto(t *testing.T) {
	for kind := -1; kind <= 4; kind++ {
		p := api.Packet{Kind: kind, Ip4: api.Ip4{Proto: 50}, Ip6: api.Ip6{Next: 51}}
		matches(t, "permit any", 0, p, true)
		matches(t, "permit arp", 0, p, kind == api.PArp)
		matches(t, "permit ip4", 0, p, kind == api.PIp4)
		matches(t, "permit ip6", 0, p, kind == api.PIp6)
		matches(t, "permit proto 50", 0, p, kind == api.PIp4)
		matches(t, "permit proto 51", 0, p, kind == api.PIp6)
		matches(t, "permit ip4 proto 50", 0, p, kind == api.PIp4)
		matches(t, "permit ip4 proto 51", 0, p, false)
		matches(t, "permit ip6 proto 50", 0, p, false)
		matches(t, "permit ip6 proto 51", 0, p, kind == api.PIp6)
	}
	matches(t, "permit tcp", 0, tcp(), true)
	matches(t, "permit udp", 0, tcp(), false)
	matches(t, "permit udp", 0, udp(), true)
	matches(t, "permit icmp", 0, echo(), true)
	matches(t, "permit icmp6", 0, echo(), false)
	matches(t, "permit tcp", 0, ask(), false)
	matches(t, "permit tcp", 0, with(tcp(), func(p *api.Packet) { p.L4 = api.LNone }), true)
}

// 16.7: the source and the target by the packet's kind, in one of the nets, or in none.
func TestJudgeNets(t *testing.T) {
	for _, x := range []struct {
		side string
		p    api.Packet
		ok   bool
	}{
		{"from 10.0.0.1", tcp(), true}, {"from 10.0.0.2", tcp(), false}, {"from 10.0.0.0/8", tcp(), true}, {"from 11.0.0.0/8", tcp(), false},
		{"to 192.0.2.1", tcp(), true}, {"to 10.0.0.1", tcp(), false}, {"to 192.0.2.0/31", tcp(), true}, {"from 192.0.2.1", tcp(), false},
		{"from 10.0.0.2,10.0.0.1", tcp(), true}, {"from ::/0,10.0.0.0/31", tcp(), true}, {"from ::/0", tcp(), false}, {"from 0.0.0.0/0", tcp(), true},
		{"from not 10.0.0.1", tcp(), false}, {"from not 10.0.0.2", tcp(), true}, {"from not 10.0.0.2,10.0.0.1", tcp(), false}, {"from not 10.0.0.2,::/0", tcp(), true}, {"to not ::/0", tcp(), true},
		{"from 10.0.0.1 to 192.0.2.1", tcp(), true}, {"from 10.0.0.1 to 192.0.2.2", tcp(), false}, {"from 10.0.0.2 to 192.0.2.1", tcp(), false}, {"from not 10.0.0.2 to not 192.0.2.2", tcp(), true},
		{"from 10.0.0.1", ask(), true}, {"to 10.0.0.2", ask(), true}, {"from 10.0.0.2", ask(), false}, {"to 10.0.0.1", ask(), false}, {"to not 10.0.0.2", ask(), false},
		{"from 2001::1", udp(), true}, {"to 2001::2", udp(), true}, {"from 2001::2", udp(), false}, {"to ::/0", udp(), true}, {"to 0.0.0.0/0", udp(), false}, {"to not 0.0.0.0/0", udp(), true},
		{"from any to any", api.Packet{}, true}, {"from ::/0,0.0.0.0/0", api.Packet{}, false}, {"from not ::1", api.Packet{}, false}, {"to not ::1", api.Packet{Kind: 4}, false}, {"to not ::1", api.Packet{Kind: -1}, false},
		{"from not 10.0.0.1", api.Packet{Kind: api.PIp4}, true}, {"to not 10.0.0.1", api.Packet{Kind: api.PArp}, true}, {"to not ::1", api.Packet{Kind: api.PIp6}, true},
		{"from 0.0.0.0/0,::/0", api.Packet{Kind: api.PIp4}, false}, {"to ::/0,0.0.0.0/0", api.Packet{Kind: api.PIp6}, false},
		{"from ::/0", with(tcp(), func(p *api.Packet) { p.Ip4.Src = udp().Ip6.Src }), true},
		{"from 10.0.0.1", with(tcp(), func(p *api.Packet) { p.Kind = api.PIp6 }), false},
	} {
		matches(t, "permit any "+x.side, 0, x.p, x.ok)
	}
}

// 16.7: ports of UDP and TCP, in one of the ranges, both ends in.
func TestJudgePorts(t *testing.T) {
	for n, ok := range map[int]bool{-1: false, 0: false, 9: false, 10: true, 15: true, 20: true, 21: false, 65534: false, 65535: true, 65536: false, math.MaxInt: false, math.MinInt: false} {
		from := with(tcp(), func(p *api.Packet) { p.Tcp.Sport, p.Tcp.Dport, p.Udp = n, 99, api.Udp{Sport: 99, Dport: 99} })
		to := with(tcp(), func(p *api.Packet) { p.Tcp.Sport, p.Tcp.Dport, p.Udp = 99, n, api.Udp{Sport: 99, Dport: 99} })
		matches(t, "permit tcp from any port 10-20,65535", 0, from, ok)
		matches(t, "permit tcp to any port 10-20,65535", 0, from, false)
		matches(t, "permit tcp to any port 10-20,65535", 0, to, ok)
		matches(t, "permit tcp from any port 10-20,65535", 0, to, false)
		matches(t, "permit tcp from any port 99 to any port 10-20,65535", 0, to, ok)
		matches(t, "permit tcp from any port 98 to any port 0-65535", 0, to, false)
		from = with(udp(), func(p *api.Packet) { p.Udp.Sport, p.Udp.Dport, p.Tcp = n, 99, api.Tcp{Sport: 99, Dport: 99} })
		to = with(udp(), func(p *api.Packet) { p.Udp.Sport, p.Udp.Dport, p.Tcp = 99, n, api.Tcp{Sport: 99, Dport: 99} })
		matches(t, "permit udp from any port 10-20,65535", 0, from, ok)
		matches(t, "permit udp to any port 10-20,65535", 0, from, false)
		matches(t, "permit udp to any port 10-20,65535", 0, to, ok)
		matches(t, "permit udp from any port 10-20,65535", 0, to, false)
	}
	matches(t, "permit tcp from any port 0", 0, with(tcp(), func(p *api.Packet) { p.Tcp.Sport = 0 }), true)
	for layer := -1; layer <= 4; layer++ {
		p := with(tcp(), func(p *api.Packet) { p.L4, p.Udp = layer, api.Udp{Sport: 5, Dport: 6} })
		matches(t, "permit tcp from any port 0-65535", 0, p, layer == api.LTcp || layer == api.LUdp)
		matches(t, "permit tcp to any port 0-65535", 0, p, layer == api.LTcp || layer == api.LUdp)
		matches(t, "permit tcp from any port 5 to any port 6", 0, p, layer == api.LUdp)
		matches(t, "permit tcp from 10.0.0.1 port 1024 to any port 80", 0, p, layer == api.LTcp)
	}
}

// 16.7: nets and ports of a side must both hold.
func TestJudgeSides(t *testing.T) {
	matches(t, "permit tcp from 10.0.0.1 port 1024", 0, tcp(), true)
	matches(t, "permit tcp from 10.0.0.1 port 1025", 0, tcp(), false)
	matches(t, "permit tcp from 10.0.0.2 port 1024", 0, tcp(), false)
	matches(t, "permit tcp from not 10.0.0.2 port 1024", 0, tcp(), true)
	matches(t, "permit tcp from not 10.0.0.2 port 1025", 0, tcp(), false)
	matches(t, "permit tcp to 192.0.2.1 port 80", 0, tcp(), true)
	matches(t, "permit tcp to 192.0.2.1 port 81", 0, tcp(), false)
}

// 16.7: all flags that must be set are, and none that must not be.
func TestJudgeFlags(t *testing.T) {
	for _, want := range [][2]int{{1, 0}, {0, 1}, {2, 16}, {18, 5}, {128, 64}, {255, 0}, {0, 255}, {170, 85}} {
		s := made(t, api.Rule{Act: api.APermit, Proto: 6, Set: want[0], Clear: want[1]})
		for flags := -1; flags <= 256; flags++ {
			p := with(tcp(), func(p *api.Packet) { p.Tcp.Flags = flags })
			v := denied
			if flags&want[0] == want[0] && flags&want[1] == 0 {
				v = api.Verdict{Act: api.APermit}
			}
			judges(t, s, 0, p, v)
		}
	}
	for layer := -1; layer <= 4; layer++ {
		p := with(tcp(), func(p *api.Packet) { p.L4 = layer })
		matches(t, "permit tcp flags syn", 0, p, layer == api.LTcp)
		matches(t, "permit tcp flags !fin", 0, p, layer == api.LTcp)
		matches(t, "permit tcp", 0, p, true)
	}
}

// 16.7: the type of an ICMP message.
func TestJudgeType(t *testing.T) {
	matches(t, "permit icmp type 8", 0, echo(), true)
	for _, n := range []int{-1, 0, 1, 7, 8, 9, 128, 254, 255, 256, math.MaxInt, math.MinInt} {
		p := with(echo(), func(p *api.Packet) { p.Icmp.Type = n })
		matches(t, "permit icmp", 0, p, true)
		matches(t, "permit icmp type 0", 0, p, n == 0)
		matches(t, "permit icmp type 8", 0, p, n == 8)
		matches(t, "permit icmp type 255", 0, p, n == 255)
		six := api.Packet{Kind: api.PIp6, Ip6: api.Ip6{Next: 58}, L4: api.LIcmp, Icmp: api.Icmp{V: 6, Type: n}}
		matches(t, "permit icmp6 type 128", 0, six, n == 128)
	}
	for layer := -1; layer <= 4; layer++ {
		matches(t, "permit icmp type 8", 0, with(echo(), func(p *api.Packet) { p.L4 = layer }), layer == api.LIcmp)
	}
}

// 16.7: fragments alone.
func TestJudgePieces(t *testing.T) {
	rows := []struct {
		p  api.Packet
		ok bool
	}{
		{tcp(), false}, {udp(), false}, {ask(), false}, {api.Packet{}, false},
		{with(tcp(), func(p *api.Packet) { p.Ip4.MF = true }), true},
		{with(tcp(), func(p *api.Packet) { p.Ip4.Off = 8 }), true},
		{with(tcp(), func(p *api.Packet) { p.Ip4.Off = 1 }), true},
		{with(tcp(), func(p *api.Packet) { p.Ip4.Off = -8 }), false},
		{with(tcp(), func(p *api.Packet) { p.Ip4.DF = true }), false},
		{with(tcp(), func(p *api.Packet) { p.Ip6.Frag.Has = true }), false},
		{with(udp(), func(p *api.Packet) { p.Ip6.Frag.Has = true }), true},
		{with(udp(), func(p *api.Packet) { p.Ip6.Frag = api.Frag{More: true, Off: 8} }), false},
		{with(udp(), func(p *api.Packet) { p.Ip4.MF, p.Ip4.Off = true, 8 }), false},
		{with(ask(), func(p *api.Packet) { p.Ip4.MF, p.Ip6.Frag.Has = true, true }), false},
	}
	for _, x := range rows {
		matches(t, "permit any pieces", 0, x.p, x.ok)
		matches(t, "permit any", 0, x.p, true)
	}
}

// 16.7: every clause of a rule must hold: a packet that passes all, and one for each clause that it alone refuses.
func TestJudgeAllClauses(t *testing.T) {
	line := "permit class 3 ip4 tcp on p2 vid 7 from 10.0.0.0/8 port 1000-2000 to not 10.0.0.0/8 port 80 flags syn,!fin pieces"
	good := with(tcp(), func(p *api.Packet) { p.Tags, p.Ip4.MF = []api.Tag{{VID: 7}}, true })
	s := set(t, line)
	judges(t, s, 2, good, api.Verdict{Act: api.APermit, Class: 3})
	judges(t, s, 3, good, denied)
	for _, turn := range []func(p *api.Packet){
		func(p *api.Packet) { p.Tags[0].VID = 8 },
		func(p *api.Packet) { p.Tags = nil },
		func(p *api.Packet) { p.Kind = api.PIp6 },
		func(p *api.Packet) { p.Ip4.Proto = 17 },
		func(p *api.Packet) { p.Ip4.Src.A[0] = 11 },
		func(p *api.Packet) { p.Ip4.Dst.A[0] = 10 },
		func(p *api.Packet) { p.Tcp.Sport = 999 },
		func(p *api.Packet) { p.Tcp.Dport = 81 },
		func(p *api.Packet) { p.Tcp.Flags = 0 },
		func(p *api.Packet) { p.Tcp.Flags |= 1 },
		func(p *api.Packet) { p.Ip4.MF = false },
	} {
		bad := good
		bad.Tags = []api.Tag{{VID: 7}}
		turn(&bad)
		judges(t, s, 2, bad, denied)
	}
}
