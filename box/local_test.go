package box_test

import (
	"slices"
	"testing"

	"weir/api"
	"weir/icmp"
)

// 19.12: a solicitation for the port is learnt from and answered, to the frame's source.
func TestSolicitation(t *testing.T) {
	for _, to := range []struct {
		mac  api.Mac
		text string
	}{{port0, own06}, {api.Mac{0x33, 0x33, 0xff, 0, 0, 1}, "ff02::1:ff00:1"}, {port0, own16}} {
		for _, from := range []string{a6, "fe80::2", "2001:db8:9::7"} {
			x := made(t, plain())
			x.hears(0, solicitation(to.mac, hostB, from, to.text, own06, &hostA))
			x.tells(0, welcome(hostB, port0, own06, from))
			x.knows(neighbour(0, from, hostA, api.NStale))
			x.counts(1, 1, 1, 1)
			x.hears(0, solicitation(to.mac, hostB, from, to.text, own06, nil))
			x.tells(0, welcome(hostB, port0, own06, from))
			x.knows(neighbour(0, from, hostA, api.NStale))
			x.dropped()
		}
	}
	x := made(t, plain())
	x.hears(0, solicitation(port0, hostA, a6, own06, own06, nil)) // it tells no link address
	x.tells(0, welcome(hostA, port0, own06, a6))
	x.knows()
}

// 19.12: solicitations that are used up, and no more.
func TestSolicitationForOthers(t *testing.T) {
	for _, frame := range [][]byte{
		solicitation(port0, hostA, a6, own06, own16, &hostA),
		solicitation(port0, hostA, a6, own06, a6, &hostA),
		solicitation(port0, hostA, a6, "ff02::1", "2001:db8::77", &hostA),
		solicitation(port0, hostA, "::", "ff02::1:ff00:1", own06, nil),
		solicitation(port0, hostA, "::", "ff02::1:ff00:1", own06, &hostA),
		solicitation(port0, hostA, "::", own06, own06, &hostA),
		advertisement(port0, hostA, a6, own06, a6, nil, true),
		advertisement(port0, hostA, a6, own06, a6, &hostA, true),
		advertisement(port0, hostA, a6, own06, a6, &hostA, false),
		advertisement(port0, hostA, "::", "ff02::1", a6, &hostA, false),
	} {
		x := made(t, plain())
		x.hears(0, frame)
		x.quiet()
		x.knows()
		x.counts(1, 0, 1, 0)
		x.dropped()
	}
}

// 19.12: a link address that may not be is not learnt; who solicits is answered all the same.
func TestSolicitationWithBadMac(t *testing.T) {
	for _, mac := range []api.Mac{{}, all} {
		x := made(t, plain())
		x.hears(0, solicitation(port0, hostA, a6, own06, own06, &mac))
		x.tells(0, welcome(hostA, port0, own06, a6))
		x.knows()
		x.dropped()
	}
	x := made(t, with(plain(), func(c *api.Config) { c.Neigh.Max = 1 }))
	x.hears(0, framed(port0, hostA, udp(a, b, 9, 1)), solicitation(port0, hostA, a6, own06, own06, &hostA))
	x.tells(0, welcome(hostA, port0, own06, a6))
	x.knows(neighbour(1, b, noMac, api.NAsked))
	x.dropped()
}

// 19.12: an advertisement confirms its target if it was asked for; else it is seen by the way.
func TestAdvertisement(t *testing.T) {
	x := made(t, plain())
	x.hears(0, solicitation(port0, hostA, a6, own06, own06, &hostA))
	x.hears(0, advertisement(port0, hostB, b6, own06, a6, &hostA, true))
	x.knows(neighbour(0, a6, hostA, api.NFresh))
	x.hears(0, advertisement(port0, hostB, b6, own06, a6, nil, true))
	x.hears(0, advertisement(port0, hostB, "fe80::7", "ff02::1", a6, &hostA, false))
	x.knows(neighbour(0, a6, hostA, api.NFresh))
	x.hears(0, advertisement(port0, hostB, a6, own06, a6, &hostB, false))
	x.knows(neighbour(0, a6, hostB, api.NStale))
	x.hears(0, advertisement(port0, hostB, a6, own06, a6, &all, true))
	x.knows(neighbour(0, a6, hostB, api.NStale))
	x.hears(0, advertisement(port0, hostB, a6, own06, a6, &hostA, true))
	x.knows(neighbour(0, a6, hostA, api.NFresh))
	x.tells(0, welcome(hostA, port0, own06, a6))
	x.counts(7, 1, 7, 1)
	x.dropped()
}

// 19.12: what waited goes on, however it was learnt.
func TestDiscoveryLetsItemsGo(t *testing.T) {
	ask := solicitation(api.Mac{0x33, 0x33, 0xff, 0, 0, 9}, port1, own16, "ff02::1:ff00:9", b6, &port1)
	for _, learnt := range []struct {
		frame []byte
		more  [][]byte
		state int
	}{
		{advertisement(port1, hostB, b6, own16, b6, &hostB, true), nil, api.NFresh},
		{advertisement(port1, hostB, b6, own16, b6, &hostB, false), nil, api.NStale},
		{solicitation(port1, hostB, b6, own16, own16, &hostB), [][]byte{welcome(hostB, port1, own16, b6)}, api.NStale},
	} {
		x := made(t, plain())
		for n := range 3 {
			x.hears(0, framed(port0, hostA, udp(a6, b6, 9, n)))
		}
		x.tells(1, ask)
		x.hears(1, learnt.frame)
		x.knows(neighbour(1, b6, hostB, learnt.state))
		want := learnt.more
		for n := range 3 {
			want = append(want, framed(hostB, port1, hop(udp(a6, b6, 9, n))))
		}
		x.tells(1, want...)
		x.dropped()
	}
}

// 19.12: what neighbour discovery is refused for, in its order.
func TestDiscoveryRefused(t *testing.T) {
	nd := api.ND{Kind: api.NDSolicit, Target: ip(own06)}
	good, _ := icmp.PutND(nd)
	code, short, target, option := good, good, good, good
	code.Code = 1
	short.Data = good.Data[:15]
	target.Data = append([]byte{0xff, 2}, make([]byte, 14)...)
	option.Data = append(slices.Clone(good.Data), 1, 0)
	none := with(plain(), func(c *api.Config) { c.Ports[1].Net6 = api.Prefix{} })
	for _, kind := range []int{135, 136} {
		for _, r := range []struct {
			c    api.Config
			port int
			mac  api.Mac
			to   string
			hops int
			m    api.Icmp
			want api.Errno
		}{
			{plain(), 0, port0, own06, 254, good, api.ErrNdHop}, {plain(), 0, port0, "ff02::1", 0, good, api.ErrNdHop},
			{plain(), 0, port0, own06, 64, short, api.ErrNdHop}, {none, 1, port1, "ff02::1", 1, good, api.ErrNdHop},
			{plain(), 0, port0, own06, 255, code, api.ErrNotND}, {plain(), 0, port0, own06, 255, short, api.ErrNdShort},
			{plain(), 0, port0, own06, 255, target, api.ErrNdTarget}, {none, 1, port1, "ff02::1", 255, option, api.ErrNdOption},
			{none, 1, port1, "ff02::1", 255, good, api.ErrLocal}, {none, 1, port1, own06, 255, good, api.ErrLocal},
		} {
			m := r.m
			m.Type = kind
			refusesFrame(t, r.c, r.port, framed(r.mac, hostA, message(a6, r.to, r.hops, m)), r.want)
		}
	}
	for _, kind := range []int{133, 134, 137} { // other messages of routers are none of the box's business
		m := good
		m.Type = kind
		refusesFrame(t, plain(), 0, framed(port0, hostA, message(a6, "ff02::1", 255, m)), api.ErrLocal)
	}
	four := good
	four.Type = 135
	refusesFrame(t, plain(), 0, framed(port0, hostA, message(a, own0, 255, four)), api.ErrLocal)
}

// 19.12: discovery behind extension headers is one; in a fragment, or put together of some, it is none.
func TestDiscoveryBehindHeaders(t *testing.T) {
	m, _ := icmp.PutND(api.ND{Kind: api.NDSolicit, Target: ip(own06), HasMac: true, Mac: hostA})
	p := message(a6, own06, 255, m)
	p.Ip6.Exts = []api.Ext{{Kind: 60, Opts: []api.Opt{{Data: make([]byte, 6)}}}}
	x := made(t, plain())
	x.hears(0, framed(port0, hostA, p))
	x.tells(0, welcome(hostA, port0, own06, a6))
	q := closed(message(a6, own06, 255, m))
	q.Ip6.Frag = api.Frag{Has: true, ID: 3}
	x.hears(0, framed(port0, hostA, q))
	x.dropped(api.ErrLocal)
	x.quiet()
	group := q
	group.Ip6.Dst = ip("ff02::1:ff00:1")
	x.hears(0, framed(port0, hostA, group))
	x.dropped(api.ErrLocal, api.ErrLocal)
	x.counts(3, 1, 2, 2) // used up are the solicitation and the fragment, made the advertisement and what the fragment was
}

// 19.12: echoes to any own address are answered from that address.
func TestEcho(t *testing.T) {
	for _, e := range []struct{ from, to string }{{a, own0}, {a, own1}, {a, own2}, {a6, own06}, {a6, own16}, {a6, own26}} {
		ask, answer := 8, 0
		if ip(e.from).V == 6 {
			ask, answer = 128, 129
		}
		for _, n := range []int{0, 1, 1000, 1452} {
			x := met(t, plain())
			was := x.Counts()
			p := echo(e.from, e.to, 1, ask, 0xabcd, n)
			if p.Kind == api.PIp4 {
				p.Ip4.Tos, p.Ip4.ID, p.Ip4.DF = 5, 99, true
				p.Ip4.Opts = []api.Opt{{Kind: 148, Data: []byte{0, 0}}}
			} else {
				p.Ip6.Class, p.Ip6.Flow = 5, 77
			}
			x.hears(0, framed(port0, hostA, p))
			x.tells(0, framed(hostA, port0, echo(e.to, e.from, 64, answer, 0xabcd, n)))
			x.counts(was.In+1, was.Out+1, was.Used+1, was.Made+1)
			x.dropped()
		}
	}
}

// 19.12: an echo from far away is answered by the route there, whichever port it came by.
func TestEchoByRoute(t *testing.T) {
	x := met(t, plain())
	x.hears(0, framed(port0, hostA, echo(far, own0, 9, 8, 1, 10)), framed(port0, hostA, echo(far6, own06, 9, 128, 1, 10)))
	x.tells(2, framed(gateway, port2, echo(own0, far, 64, 0, 1, 10)), framed(gateway, port2, echo(own06, far6, 64, 129, 1, 10)))
	x.hears(0, framed(port0, hostA, echo("203.0.113.1", own0, 9, 8, 1, 10)), framed(port0, hostA, echo("2001:db8:77::1", own06, 9, 128, 1, 10)))
	x.dropped(api.ErrNoRoute, api.ErrNoRoute)
	x.quiet()
}

// 19.12: rules, hops and translation are not asked of what is for the box.
func TestEchoIsNotJudged(t *testing.T) {
	x := met(t, with(natted(), func(c *api.Config) { c.Rules = []string{"deny any"} }))
	x.hears(0, framed(port0, hostA, echo(a, own0, 0, 8, 1, 10)))
	x.tells(0, framed(hostA, port0, echo(own0, a, 64, 0, 1, 10)))
	x.hears(2, framed(port2, gateway, echo(far, own2, 9, 8, 1, 10)), framed(port2, gateway, echo(far, own0, 9, 8, 1, 10)))
	x.tells(2, framed(gateway, port2, echo(own2, far, 64, 0, 1, 10)), framed(gateway, port2, echo(own0, far, 64, 0, 1, 10)))
	x.dropped()
	if l := x.Flows(); len(l) > 0 {
		t.Errorf("flows are %v", l)
	}
}

// 19.12: everything else for the box is dropped.
func TestLocalRefused(t *testing.T) {
	code := echo(a, own0, 9, 8, 1, 1)
	code.Icmp.Code = 1
	code6 := echo(a6, own06, 9, 128, 1, 1)
	code6.Icmp.Code = 1
	for _, p := range []api.Packet{
		echo(a, own0, 9, 0, 1, 1), echo(a6, own06, 9, 129, 1, 1), code, code6,
		echo(a, own0, 9, 128, 1, 1), echo(a6, own06, 9, 8, 1, 1),
		echo(a, "224.0.0.1", 9, 8, 1, 1), echo(a, "255.255.255.255", 9, 8, 1, 1), echo(a6, "ff02::1", 9, 128, 1, 1),
		echo("169.254.0.1", own0, 9, 8, 1, 1), echo("fe80::1", own06, 9, 128, 1, 1), echo("::", own06, 9, 128, 1, 1),
		udp(a, own0, 9, 1), udp(a6, own06, 9, 1), tcp(a, 1, own0, 80, api.TcpSyn), carrying(a, own0, 9, 253, 0), carrying(a6, own06, 9, 0, 59),
	} {
		refusesFrame(t, plain(), 0, framed(port0, hostA, p), api.ErrLocal)
	}
}

// 19.12: fragments of an echo are put together; those to groups are dropped.
func TestEchoInFragments(t *testing.T) {
	for _, e := range []struct {
		from, to    string
		ask, answer int
	}{{a, own1, 8, 0}, {a6, own16, 128, 129}} {
		x := met(t, plain())
		was := x.Counts()
		p := echo(e.from, e.to, 9, e.ask, 5, 3000)
		l := cuts(port0, hostA, p, 1300, 0xdeadbeef)
		if len(l) != 3 {
			t.Fatalf("%d fragments", len(l))
		}
		x.hears(0, l[2], l[0])
		x.keeps(api.Kept{Frags: 2})
		x.quiet()
		x.hears(0, l[1])
		x.keeps(api.Kept{Tx: 3})
		x.tells(0, cuts(hostA, port0, echo(e.to, e.from, 64, e.answer, 5, 3000), 1500, 0xdeadbeef)...)
		x.dropped()
		// used up: three fragments, the datagram of them, the answer that was cut; made: that datagram, the answer, three pieces
		x.counts(was.In+3, was.Out+3, was.Used+5, was.Made+5)
	}
	many := cuts(port0, hostA, echo(a, "224.0.0.1", 9, 8, 1, 3000), 1300, 0)
	refusesFrame(t, plain(), 0, many[0], api.ErrLocal)
	refusesFrame(t, plain(), 0, many[2], api.ErrLocal)
	refusesFrame(t, plain(), 0, cuts(port0, hostA, echo(a6, "ff02::1", 9, 128, 1, 3000), 1300, 1)[0], api.ErrLocal)
	refusesFrame(t, plain(), 0, cuts(port0, hostA, echo(a, "255.255.255.255", 9, 8, 1, 3000), 1300, 0)[0], api.ErrLocal)
}

// 19.12: what is whole then may be refused as any other: for its sum, or because it is nothing that is answered.
func TestLocalFragmentsRefused(t *testing.T) {
	x := met(t, plain())
	bad := closed(echo(a, own0, 9, 8, 1, 2000))
	bad.Ip4.Data[100] ^= 1
	x.hears(0, cutsOf(bad, 1300)...)
	x.dropped(api.ErrIcmpSum)
	x.hears(0, cuts(port0, hostA, udp(a, own0, 9, 2000), 1300, 0)...)
	x.dropped(api.ErrIcmpSum, api.ErrLocal)
	x.hears(0, cuts(port0, hostA, echo("fe80::1", own06, 9, 128, 1, 2000), 1300, 4)...)
	x.dropped(api.ErrIcmpSum, api.ErrLocal, api.ErrLocal)
	x.keeps(api.Kept{})
	x.quiet()
}

// cutsOf are the frames, from a to the port 0, of the fragments of a closed packet, whatever its upper layer is.
func cutsOf(p api.Packet, mtu int) [][]byte {
	var l [][]byte
	n := (mtu - 20) &^ 7
	for at := 0; at < len(p.Ip4.Data); at += n {
		end := min(at+n, len(p.Ip4.Data))
		q := p
		q.Ip4.Off, q.Ip4.MF, q.Ip4.Data = at, end < len(p.Ip4.Data), p.Ip4.Data[at:end]
		l = append(l, framed(port0, hostA, q))
	}
	return l
}

// 19.14: an answer of version 6 that does not fit its way out is cut only if what it answers came cut.
func TestEchoTooBig(t *testing.T) {
	x := met(t, with(plain(), func(c *api.Config) { c.Ports[0].MTU, c.Ports[0].Size = 1280, 9100 }))
	x.hears(0, framed(port0, hostA, echo(a6, own06, 9, 128, 1, 1280-48)))
	x.tells(0, framed(hostA, port0, echo(own06, a6, 64, 129, 1, 1280-48)))
	x.hears(0, framed(port0, hostA, echo(a6, own06, 9, 128, 1, 1280-47)))
	x.dropped(api.ErrTooBig)
	x.quiet() // no complaint
	x.hears(0, framed(port0, hostA, echo(a, own0, 9, 8, 1, 3000)))
	x.tells(0, cuts(hostA, port0, echo(own0, a, 64, 0, 1, 3000), 1280, 0)...)
	q := closed(echo(a6, own06, 9, 128, 1, 2000))
	q.Ip6.Frag = api.Frag{Has: true, ID: 0xfffffffe}
	x.hears(0, framed(port0, hostA, q)) // alone, but a fragment
	x.tells(0, cuts(hostA, port0, echo(own06, a6, 64, 129, 1, 2000), 1280, 0xfffffffe)...)
	x.dropped(api.ErrTooBig)
}

// 19.14: an answer that is too long for a frame is dropped, as what is in transit would be.
func TestEchoTooLong(t *testing.T) {
	for _, n := range []int{65535 - 14 - 28, 65535 - 14 - 27, 65507} {
		x := met(t, with(plain(), func(c *api.Config) { c.Ports[0].Tx = 4; c.Neigh.Line = 64 }))
		p := echo(a, own0, 9, 8, 1, 0)
		m := p.Icmp
		m.Data = pattern(n)
		p.L4, p.Icmp = api.LNone, api.Icmp{}
		p.Ip4.Data, _ = icmp.Serialise(api.IP{}, api.IP{}, m)
		x.hears(0, cutsOf(p, 1500)...)
		if n == 65535-14-28 {
			x.dropped()
			x.keeps(api.Kept{Tx: 4, Queued: 41})
		} else {
			x.dropped(api.ErrLong)
			x.quiet()
		}
	}
}
