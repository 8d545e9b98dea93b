package box_test

import (
	"slices"
	"testing"

	"weir/api"
	"weir/l4"
)

// forwards wants a packet from a to go out to b, as it is said here.
func forwards(x *bench, p, want api.Packet) {
	x.Helper()
	x.hears(0, framed(port0, hostA, p))
	x.tells(1, framed(hostB, port1, want))
}

// 19.13: a packet in transit has one hop less, and is else what it was.
func TestTransit(t *testing.T) {
	x := met(t, plain())
	for _, p := range []api.Packet{
		udp(a, b, 64, 0), udp(a, b, 2, 1000), udp(a6, b6, 64, 0), udp(a6, b6, 255, 1000), noCut(udp(a, b, 9, 1)),
		tcp(a, 1, b, 2, api.TcpAck), tcp(a6, 1, b6, 2, api.TcpRst), echo(a, b, 9, 8, 1, 9), echo(a6, b6, 9, 129, 1, 9),
		echo(a, b, 9, 13, 1, 9), message(a6, b6, 9, api.Icmp{Type: 1}), carrying(a, b, 9, 253, 0), carrying(a6, b6, 9, 0, 59),
		message(a6, b6, 255, api.Icmp{Type: 135}), // neighbour discovery, but not for the box
	} {
		forwards(x, p, hop(p))
	}
	rich := udp(a, b, 64, 10)
	rich.Ip4.Tos, rich.Ip4.ID, rich.Udp.NoSum = 255, 65535, true
	rich.Ip4.Opts = []api.Opt{{Kind: 7, Data: []byte{4, 0, 0}}, {Kind: 148, Data: []byte{0, 0}}}
	forwards(x, rich, hop(rich))
	rich = udp(a6, b6, 64, 10)
	rich.Ip6.Class, rich.Ip6.Flow = 255, 1<<20-1
	rich.Ip6.Exts = []api.Ext{{Kind: 0, Opts: []api.Opt{{Kind: 5, Data: []byte{0, 0}}, {Data: make([]byte, 2)}}}, {Kind: 43, Data: pattern(14)}}
	forwards(x, rich, hop(rich))
	x.dropped()
}

// 19.13: what a frame has beside its canonical form does not go on.
func TestTransitIsCanonical(t *testing.T) {
	x := met(t, plain())
	p := udp(a, b, 64, 5)
	x.hears(0, append(framed(port0, hostA, p), 1, 2, 3))
	x.tells(1, framed(hostB, port1, hop(p)))
	long := closed(p) // bytes behind the length that UDP says
	long.Ip4.Data = append(long.Ip4.Data, 1, 2, 3)
	long.Ip4.Proto = 99
	frame := framed(port0, hostA, long)
	frame[14+9] = 17
	frame[14+10], frame[14+11] = sum4(frame[14:34])
	x.hears(0, frame)
	x.tells(1, framed(hostB, port1, hop(p)))
	x.dropped()
}

// sum4 is the sum of an IPv4 header.
func sum4(b []byte) (byte, byte) {
	n := 0
	for i := 0; i < 20; i += 2 {
		if i != 10 {
			n += int(b[i])<<8 | int(b[i+1])
		}
	}
	n = 65535 - (n&65535 + n>>16)
	return byte(n >> 8), byte(n)
}

// 19.13: rules deny, reject and permit by the port, the frame's tag and the packet; what none matches is denied.
func TestJudged(t *testing.T) {
	x := met(t, with(plain(), func(c *api.Config) {
		c.Rules = []string{"deny udp to any port 1", "reject udp to any port 2", "deny any on p1", "permit udp on p0"}
	}))
	p := udpPorts(a, 9, b, 1, 9, 1)
	x.hears(0, framed(port0, hostA, p))
	x.dropped(api.ErrDenied)
	x.quiet()
	p = udpPorts(a, 9, b, 2, 9, 1)
	x.hears(0, framed(port0, hostA, p))
	x.dropped(api.ErrDenied, api.ErrDenied)
	x.tells(0, framed(hostA, port0, complaint(own0, 3, 13, 0, p)))
	p = udpPorts(a6, 9, b6, 2, 9, 1)
	x.hears(0, framed(port0, hostA, p))
	x.tells(0, framed(hostA, port0, complaint(own06, 1, 1, 0, p)))
	x.hears(1, framed(port1, hostB, udp(b, a, 9, 1)))
	x.hears(0, framed(port0, hostA, tcp(a, 1, b, 2, 2)))
	x.dropped(slices.Repeat([]api.Errno{api.ErrDenied}, 5)...)
	x.quiet()
	forwards(x, udp(a, b, 9, 1), hop(udp(a, b, 9, 1)))
	y := met(t, with(plain(), func(c *api.Config) { c.Rules = nil }))
	y.hears(0, framed(port0, hostA, udp(a, b, 9, 1)))
	y.dropped(api.ErrDenied)
}

// 19.13: a rule sees the tag of the frame.
func TestJudgedByTag(t *testing.T) {
	c := with(plain(), func(c *api.Config) { c.Ports[0].Vid = 7 })
	for _, r := range []struct {
		rule string
		want []api.Errno
	}{{"permit any vid 7", nil}, {"permit any vid 6", []api.Errno{api.ErrDenied}}} {
		x := made(t, with(c, func(c *api.Config) { c.Rules = []string{r.rule} }))
		x.meets(1, port1, hostB, b, own1)
		x.hears(0, framed(port0, hostA, tagged(7, udp(a, b, 9, 1))))
		x.dropped(r.want...)
		if r.want == nil {
			x.tells(1, framed(hostB, port1, hop(udp(a, b, 9, 1))))
			for _, q := range pieces(udp(a, b, 9, 2000), 1300, 0) {
				x.hears(0, framed(port0, hostA, tagged(7, q)))
			}
			x.tells(1, cuts(hostB, port1, hop(udp(a, b, 9, 2000)), 1280, 0)...)
		}
	}
}

// 19.13: the class of the queue is the rule's; a class that there is not drops.
func TestClassOfTheRule(t *testing.T) {
	x := met(t, with(plain(), func(c *api.Config) {
		c.Rules = []string{"permit class 1 udp to any port 1", "permit class 7 udp to any port 2", "permit any"}
		c.Classes = []api.Class{{Quantum: 1500, Items: 64, Bytes: 1 << 20}, {Quantum: 1500, Items: 1, Bytes: 1 << 20, Rate: 1, Burst: 65535}}
		c.Ports[1].Tx = 1
	}))
	x.hears(0, framed(port0, hostA, udp(a, b, 9, 1)))
	x.hears(0, framed(port0, hostA, udpPorts(a, 1, b, 1, 9, 1)), framed(port0, hostA, udpPorts(a, 1, b, 1, 9, 2)))
	x.dropped(api.ErrQFull) // class 1 has room for one
	x.hears(0, framed(port0, hostA, udpPorts(a, 1, b, 2, 9, 1)))
	x.dropped(api.ErrClass, api.ErrQFull)
	x.keeps(api.Kept{Tx: 1, Queued: 1})
}

// 19.13: without a hop left.
func TestNoHopLeft(t *testing.T) {
	for hops := range 2 {
		x := met(t, plain())
		p, q := udp(a, b, hops, 100), udp(a6, b6, hops, 100)
		x.hears(0, framed(port0, hostA, p), framed(port0, hostA, q))
		x.tells(0, framed(hostA, port0, complaint(own0, 11, 0, 0, p)), framed(hostA, port0, complaint(own06, 3, 0, 0, q)))
		x.dropped(api.ErrIp4TTL, api.ErrHop6)
		x.quiet()
	}
	x := met(t, with(plain(), func(c *api.Config) { c.Rules = []string{"deny any"} })) // the rules are asked first
	x.hears(0, framed(port0, hostA, udp(a, b, 1, 100)))
	x.dropped(api.ErrDenied)
	x.quiet()
	y := met(t, plain()) // ahead of the route
	y.hears(0, framed(port0, hostA, udp(a, "203.0.113.1", 1, 100)))
	y.dropped(api.ErrIp4TTL)
}

// 19.13: without a route.
func TestNoRoute(t *testing.T) {
	x := met(t, plain())
	p, q := udp(a, "203.0.113.1", 2, 100), udp(a6, "2001:db8:77::1", 2, 100)
	x.hears(0, framed(port0, hostA, p), framed(port0, hostA, q))
	x.tells(0, framed(hostA, port0, complaint(own0, 3, 0, 0, p)), framed(hostA, port0, complaint(own06, 1, 0, 0, q)))
	x.dropped(api.ErrNoRoute, api.ErrNoRoute)
	x.quiet()
}

// 19.13, 19.15: to the next hop that the route names, or to the destination itself, also by the port that it came by.
func TestNextHop(t *testing.T) {
	x := met(t, plain())
	x.hears(0, framed(port0, hostA, udp(a, far, 9, 1)), framed(port0, hostA, udp(a6, far6, 9, 1)))
	x.tells(2, framed(gateway, port2, hop(udp(a, far, 9, 1))), framed(gateway, port2, hop(udp(a6, far6, 9, 1))))
	x.meets(0, port0, hostB, "10.0.0.3", own0)
	x.hears(0, framed(port0, hostA, udp(a, "10.0.0.3", 9, 1)))
	x.tells(0, framed(hostB, port0, hop(udp(a, "10.0.0.3", 9, 1))))
	x.hears(1, framed(port1, hostB, udp(far, a, 9, 1)))
	x.tells(0, framed(hostA, port0, hop(udp(far, a, 9, 1))))
	x.dropped()
}

// 19.13: a segment with SYN asks for no more than what the way out carries.
func TestClamped(t *testing.T) {
	x := met(t, plain())
	for _, r := range []struct{ told, want int }{{9000, 1240}, {1241, 1240}, {1240, 1240}, {500, 500}, {0, 0}} {
		for _, flags := range []int{api.TcpSyn, api.TcpSyn | api.TcpAck} {
			forwards(x, tcp(a, 1, b, 2, flags, mss(r.told)), hop(tcp(a, 1, b, 2, flags, mss(r.want))))
		}
		forwards(x, tcp(a, 1, b, 2, api.TcpAck, mss(r.told)), hop(tcp(a, 1, b, 2, api.TcpAck, mss(r.told))))
		want := min(r.want, 1220)
		forwards(x, tcp(a6, 1, b6, 2, api.TcpSyn, mss(r.told)), hop(tcp(a6, 1, b6, 2, api.TcpSyn, mss(want))))
	}
	x.hears(1, framed(port1, hostB, tcp(b, 1, a, 2, api.TcpSyn, mss(9000))), framed(port1, hostB, tcp(b6, 1, a6, 2, api.TcpSyn, mss(9000))))
	x.tells(0, framed(hostA, port0, hop(tcp(b, 1, a, 2, api.TcpSyn, mss(1460)))), framed(hostA, port0, hop(tcp(b6, 1, a6, 2, api.TcpSyn, mss(1440)))))
	p := tcp(a, 1, b, 2, api.TcpSyn, mss(9000), api.Opt{Kind: 3, Data: []byte{7}}, mss(9001))
	want := p
	want.Tcp = l4.Clamp(p.Tcp, 1240)
	forwards(x, p, hop(want))
	x.dropped()
}

// 19.13: what does not fit the way out: cut, or told.
func TestToTheMTU(t *testing.T) {
	x := met(t, plain())
	fits, fits6 := udp(a, b, 9, 1280-28), udp(a6, b6, 9, 1280-48)
	forwards(x, fits, hop(fits))
	forwards(x, noCut(fits), hop(noCut(fits)))
	forwards(x, fits6, hop(fits6))
	was := x.Counts()
	big, big6 := udp(a, b, 9, 1280-27), udp(a6, b6, 9, 1280-47)
	x.hears(0, framed(port0, hostA, big))
	x.tells(1, cuts(hostB, port1, hop(big), 1280, 0)...)
	x.counts(was.In+1, was.Out+2, was.Used+1, was.Made+2)
	x.dropped()
	x.hears(0, framed(port0, hostA, noCut(big)))
	x.tells(0, framed(hostA, port0, complaint(own0, 3, 4, 1280, noCut(big))))
	x.dropped(api.ErrDF)
	x.hears(0, framed(port0, hostA, big6))
	x.tells(0, framed(hostA, port0, complaint(own06, 2, 0, 1280, big6)))
	x.dropped(api.ErrDF, api.ErrTooBig)
	x.quiet()
}

// 19.13: the complaint about what does not fit is about the datagram as it came.
func TestComplaintIsAboutWhatCame(t *testing.T) {
	x := met(t, natted())
	p := noCut(tcp(a, 1001, far, 80, api.TcpSyn, mss(9000)))
	p.Tcp.Data = pattern(1480)
	x.hears(0, framed(port0, hostA, p))
	x.tells(0, framed(hostA, port0, complaint(own0, 3, 4, 1500, p)))
	x.dropped(api.ErrDF)
	if l := x.Flows(); len(l) != 1 { // its flow began all the same
		t.Errorf("flows are %v", l)
	}
}

// 19.13: fragments in transit are put together, judged as a whole, and cut anew.
func TestTransitInFragments(t *testing.T) {
	for _, p := range []api.Packet{udp(a, b, 9, 3000), udp(a6, b6, 9, 3000)} {
		x := met(t, with(plain(), func(c *api.Config) { c.Rules = []string{"deny any pieces", "permit udp to any port 53"} }))
		was := x.Counts()
		l := cuts(port0, hostA, p, 1304, 0xfedcba98)
		slices.Reverse(l)
		x.hears(0, l[:2]...)
		x.keeps(api.Kept{Frags: 2})
		x.quiet()
		x.hears(0, l[2])
		x.tells(1, cuts(hostB, port1, hop(p), 1280, 0xfedcba98)...)
		x.keeps(api.Kept{})
		x.counts(was.In+3, was.Out+3, was.Used+4, was.Made+4)
		x.dropped()
		x.hears(0, l[1]) // it was delivered
		x.dropped(api.ErrFinished)
		x.quiet()
	}
}

// 19.13: fragments that come by several ports belong together; the last one's port and frame count.
func TestFragmentsBySeveralPorts(t *testing.T) {
	x := met(t, with(plain(), func(c *api.Config) { c.Rules = []string{"permit any on p2"} }))
	p := udp(far, b, 9, 2000)
	l := cuts(port0, hostA, p, 1300, 0)
	x.hears(0, l[0])
	x.hears(2, cuts(port2, gateway, p, 1300, 0)[1])
	x.tells(1, cuts(hostB, port1, hop(p), 1280, 0)...)
	p.Ip4.ID = 8
	x.hears(2, cuts(port2, gateway, p, 1300, 0)[0])
	x.hears(0, cuts(port0, hostA, p, 1300, 0)[1])
	x.dropped(api.ErrDenied)
	x.keeps(api.Kept{})
}

// 19.13: of version 6 what came as a fragment may be cut, also one that came alone; what fits goes whole.
func TestAtomicFragment(t *testing.T) {
	alone := func(n, id int) []byte {
		p := closed(udp(a6, b6, 9, n))
		p.Ip6.Frag = api.Frag{Has: true, ID: id}
		return framed(port0, hostA, p)
	}
	x := met(t, plain())
	was := x.Counts()
	x.hears(0, alone(100, 5))
	x.tells(1, framed(hostB, port1, hop(udp(a6, b6, 9, 100))))
	x.counts(was.In+1, was.Out+1, was.Used+1, was.Made+1)
	x.hears(0, alone(1400, 6))
	x.tells(1, cuts(hostB, port1, hop(udp(a6, b6, 9, 1400)), 1280, 6)...)
	x.counts(was.In+2, was.Out+3, was.Used+3, was.Made+4)
	x.dropped()
}

// 19.13: a fragment that is refused is dropped for its reason; so are the others, in time.
func TestFragmentRefused(t *testing.T) {
	x := met(t, plain())
	l := cuts(port0, hostA, udp(a, b, 9, 3000), 1300, 0)
	x.hears(0, l[0], l[0])
	x.dropped(api.ErrDuplicate)
	x.keeps(api.Kept{Frags: 1})
	six := cuts(port0, hostA, udp(a6, b6, 9, 3000), 1304, 1)
	over := cuts(port0, hostA, udp(a6, b6, 9, 3000), 1400, 1)
	x.hears(0, six[0], over[0])
	x.dropped(api.ErrDuplicate, api.ErrOverlap)
	x.keeps(api.Kept{Frags: 2})
	x.hears(0, six[1], six[2])
	x.dropped(api.ErrDuplicate, api.ErrOverlap, api.ErrOverlap, api.ErrOverlap)
	x.keeps(api.Kept{Frags: 2}) // a spoilt context keeps what it held till its time is over
	inner := closed(udp(a6, b6, 9, 100))
	inner.Ip6.Frag = api.Frag{Has: true, ID: 9}
	inner.Ip6.Next = 0
	x.hears(0, framed(port0, hostA, inner))
	x.dropped(api.ErrDuplicate, api.ErrOverlap, api.ErrOverlap, api.ErrOverlap, api.ErrInner)
	x.quiet()
}

// 19.13: what is whole is read as any frame is, and dropped if its upper layer is none.
func TestWholeIsRead(t *testing.T) {
	x := met(t, plain())
	p := closed(udp(a, b, 9, 2000))
	p.Ip4.Data[1000] ^= 1
	x.hears(0, cutsOf(p, 1300)...)
	x.dropped(api.ErrUdpSum)
	x.keeps(api.Kept{})
	was := x.Counts()
	if was.Used != 12+2 || was.Made != 6+1 { // behind the twelve frames of meeting, six of them answered
		t.Errorf("counts are %+v", was)
	}
}

// 19.13: a datagram with DF that came in fragments may not be cut again.
func TestWholeWithDF(t *testing.T) {
	x := met(t, plain())
	p := closed(noCut(udp(a, b, 9, 1400)))
	l := cutsOf(p, 800)
	x.hears(0, l...)
	x.tells(0, framed(hostA, port0, complaint(own0, 3, 4, 1280, noCut(udp(a, b, 9, 1400)))))
	x.dropped(api.ErrDF)
	x.quiet()
}

// 19.13: a whole datagram that is too long for a frame is dropped behind all that is asked of it; there is no complaint about it.
func TestTooLongForAFrame(t *testing.T) {
	for _, r := range []struct {
		n    int
		dst  string
		hops int
		rule string
		want []api.Errno
		told bool
	}{
		{65535 - 14 - 28, b, 9, "permit any", nil, false},
		{65535 - 14 - 27, b, 9, "permit any", []api.Errno{api.ErrLong}, false},
		{65507, b, 9, "permit any", []api.Errno{api.ErrLong}, false},
		{65535 - 14 - 28, b, 1, "permit any", []api.Errno{api.ErrIp4TTL}, true},
		{65535 - 14 - 27, b, 1, "permit any", []api.Errno{api.ErrIp4TTL}, false},
		{65507, "203.0.113.1", 9, "permit any", []api.Errno{api.ErrNoRoute}, false},
		{65507, b, 9, "reject any", []api.Errno{api.ErrDenied}, false},
	} {
		x := met(t, with(plain(), func(c *api.Config) { c.Rules = []string{r.rule} }))
		p := udp(a, r.dst, r.hops, 0)
		u := p.Udp
		u.Data = pattern(r.n)
		p.L4, p.Udp = api.LNone, api.Udp{}
		p.Ip4.Data, _ = l4.PutUdp(p.Ip4.Src, p.Ip4.Dst, u)
		x.hears(0, cutsOf(p, 1500)...)
		x.dropped(r.want...)
		if _, ok := x.Drain(0); ok != r.told {
			t.Errorf("of %+v a complaint is told: %v", r, ok)
		}
		if f, ok := x.Drain(1); ok != (r.want == nil) {
			t.Errorf("of %+v %x goes on", r, f)
		}
	}
}

// 19.13: of version 6 headers that leave no room for a part.
func TestTight(t *testing.T) {
	x := met(t, with(plain(), func(c *api.Config) { c.Ports[0].MTU, c.Ports[0].Size = 1500, 4000 }))
	p := udp(a6, b6, 9, 100)
	p.Ip6.Exts = []api.Ext{{Kind: 43, Data: pattern(1238)}}
	q := closed(p)
	q.Ip6.Frag = api.Frag{Has: true, ID: 1}
	x.hears(0, framed(port0, hostA, q))
	x.dropped(api.ErrTight)
	x.quiet()
}
