package box_test

import (
	"testing"

	"weir/api"
)

// 19.13: a packet that goes outside has the outside address and a port of its own; what answers it finds back.
func TestTranslated(t *testing.T) {
	x := met(t, natted())
	for _, r := range []struct{ out, seen, back, found api.Packet }{
		{udpPorts(a, 5000, far, 53, 9, 3), udpPorts(outside, 1000, far, 53, 9, 3), udpPorts(far, 53, outside, 1000, 9, 4), udpPorts(far, 53, a, 5000, 9, 4)},
		{udpPorts(b, 1003, far, 53, 9, 3), udpPorts(outside, 1003, far, 53, 9, 3), udpPorts(far, 53, outside, 1003, 9, 4), udpPorts(far, 53, b, 1003, 9, 4)},
		{tcp(a, 1001, far, 80, api.TcpSyn), tcp(outside, 1001, far, 80, api.TcpSyn), tcp(far, 80, outside, 1001, api.TcpSyn|api.TcpAck), tcp(far, 80, a, 1001, api.TcpSyn|api.TcpAck)},
		{echo(a, far, 9, 8, 77, 5), echo(outside, far, 9, 8, 1000, 5), echo(far, outside, 9, 0, 1000, 5), echo(far, a, 9, 0, 77, 5)},
		{udpPorts(a6, 5000, far6, 53, 9, 3), udpPorts(a6, 5000, far6, 53, 9, 3), udpPorts(far6, 53, a6, 5000, 9, 4), udpPorts(far6, 53, a6, 5000, 9, 4)},
		{echo(a6, far6, 9, 128, 77, 5), echo(a6, far6, 9, 128, 77, 5), echo(far6, a6, 9, 129, 77, 5), echo(far6, a6, 9, 129, 77, 5)},
	} {
		in, own, mac := 0, port0, hostA
		if r.out.Ip4.Src == ip(b) {
			in, own, mac = 1, port1, hostB
		}
		x.hears(in, framed(own, mac, r.out))
		x.tells(2, framed(gateway, port2, hop(r.seen)))
		x.hears(2, framed(port2, gateway, r.back))
		x.tells(in, framed(mac, own, hop(r.found)))
	}
	x.dropped()
	if l := x.Flows(); len(l) != 6 {
		t.Errorf("flows are %+v", l)
	}
}

// 19.13: what comes from outside unasked finds no way in, of either version.
func TestUnasked(t *testing.T) {
	for _, r := range []struct {
		p    api.Packet
		want api.Errno
	}{
		{udp(far, outside, 9, 1), api.ErrNoFlow}, {udp(far, a, 9, 1), api.ErrNoFlow}, {udp(far6, a6, 9, 1), api.ErrNoFlow},
		{tcp(far, 1, outside, 2, api.TcpSyn), api.ErrNoFlow}, {echo(far, outside, 9, 0, 0, 1), api.ErrNoFlow},
		{message(far, outside, 9, api.Icmp{Type: 3}), api.ErrProto}, {carrying(far, outside, 9, 47, 0), api.ErrProto}, {carrying(far6, a6, 9, 0, 59), api.ErrProto},
		{udp(far, "203.0.113.1", 9, 1), api.ErrNoFlow}, // ahead of the route
	} {
		x := met(t, natted())
		x.hears(2, framed(port2, gateway, r.p))
		x.dropped(r.want)
		x.quiet()
	}
	x := met(t, natted()) // behind rules and hops
	x.hears(2, framed(port2, gateway, udp(far, outside, 1, 1)))
	x.dropped(api.ErrIp4TTL)
	x.tells(2, framed(gateway, port2, complaint(own2, 11, 0, 0, udp(far, outside, 1, 1))))
}

// 19.13: what may not go outside.
func TestMayNotGoOut(t *testing.T) {
	x := met(t, natted())
	x.hears(0, framed(port0, hostA, carrying(a, far, 9, 47, 0)))
	x.dropped(api.ErrProto)
	x.hears(0, framed(port0, hostA, message(a, far, 9, api.Icmp{Type: 3})))
	x.dropped(api.ErrProto, api.ErrProto)
	x.hears(0, framed(port0, hostA, tcp(a, 1001, far, 80, api.TcpAck)))
	x.dropped(api.ErrState, api.ErrProto, api.ErrProto)
	x.hears(0, framed(port0, hostA, echo(a, far, 9, 0, 1, 1)))
	x.dropped(api.ErrState, api.ErrState, api.ErrProto, api.ErrProto)
	for i := range 5 {
		x.hears(0, framed(port0, hostA, udpPorts(a, 2000+i, far, 53, 9, 1)))
	}
	x.dropped(api.ErrPorts, api.ErrState, api.ErrState, api.ErrProto, api.ErrProto)
	x.hears(0, framed(port0, hostA, udp(a, b, 9, 1))) // within the box nothing is translated
	x.tells(1, framed(hostB, port1, hop(udp(a, b, 9, 1))))
	if l := x.Flows(); len(l) != 4 {
		t.Errorf("flows are %+v", l)
	}
	y := met(t, with(natted(), func(c *api.Config) { c.Flow.Max = 1 }))
	y.hears(0, framed(port0, hostA, udpPorts(a, 1, far, 53, 9, 1)), framed(port0, hostA, udpPorts(a, 2, far, 53, 9, 1)))
	y.dropped(api.ErrFlows)
}

// 19.13: the flags of a segment turn its flow; of nothing else there are flags.
func TestFlowsGoOn(t *testing.T) {
	x := met(t, natted())
	state := func(want ...int) {
		t.Helper()
		l := x.Flows()
		if len(l) != len(want) {
			t.Fatalf("flows are %+v", l)
		}
		for i, f := range l {
			if f.State != want[i] {
				t.Errorf("flows are %+v, want states %v", l, want)
			}
		}
	}
	out := func(flags int) { x.hears(0, framed(port0, hostA, tcp(a, 1001, far, 80, flags))) }
	in := func(flags int) { x.hears(2, framed(port2, gateway, tcp(far, 80, outside, 1001, flags))) }
	out(api.TcpSyn)
	state(api.FOpening)
	in(api.TcpAck)
	x.dropped(api.ErrState)
	in(api.TcpSyn | api.TcpAck)
	state(api.FOpened)
	out(api.TcpAck)
	state(api.FLive)
	out(api.TcpFin | api.TcpAck)
	state(api.FOutFin)
	in(api.TcpFin)
	state(api.FClosing)
	in(api.TcpRst)
	state()
	in(api.TcpAck)
	x.dropped(api.ErrState, api.ErrNoFlow)
	x.hears(0, framed(port0, hostA, udpPorts(a, 1001, far, 80, 9, 1)))
	state(api.FAlive)
}

// 19.13: what comes from outside does not go back there.
func TestNotBackOutside(t *testing.T) {
	x := met(t, with(natted(), func(c *api.Config) {
		c.Routes = append(c.Routes, api.Route{Prefix: net("10.7.0.0/16"), Port: 0, Via: ip(a)}, api.Route{Prefix: net("10.7.7.0/24"), Port: 2, Via: ip(via)})
	}))
	x.hears(0, framed(port0, hostA, udpPorts("10.7.7.1", 1000, far, 53, 9, 1))) // it lives behind the port outside, says its route
	x.tells(2, framed(gateway, port2, hop(udpPorts(outside, 1000, far, 53, 9, 1))))
	x.hears(2, framed(port2, gateway, udpPorts(far, 53, outside, 1000, 9, 1)))
	x.dropped(api.ErrNoRoute)
	x.quiet()
}

// 19.13: an answer for who is not to be reached is complained of, as it came.
func TestInsideIsGone(t *testing.T) {
	x := met(t, natted())
	x.hears(0, framed(port0, hostA, udpPorts("10.9.9.9", 1000, far, 53, 9, 1)))
	x.tells(2, framed(gateway, port2, hop(udpPorts(outside, 1000, far, 53, 9, 1))))
	back := udpPorts(far, 53, outside, 1000, 9, 1)
	x.hears(2, framed(port2, gateway, back))
	x.dropped(api.ErrNoRoute)
	x.tells(2, framed(gateway, port2, complaint(own2, 3, 0, 0, back)))
	x.quiet()
}

// 19.13: fragments are translated as a whole, and cut behind that.
func TestTranslatedInFragments(t *testing.T) {
	x := met(t, natted())
	x.hears(0, cuts(port0, hostA, udpPorts(a, 5000, far, 53, 9, 3000), 1300, 0)...)
	x.tells(2, cuts(gateway, port2, hop(udpPorts(outside, 1000, far, 53, 9, 3000)), 1500, 0)...)
	x.hears(2, cuts(port2, gateway, udpPorts(far, 53, outside, 1000, 9, 3000), 1300, 0)...)
	x.tells(0, cuts(hostA, port0, hop(udpPorts(far, 53, a, 5000, 9, 3000)), 1500, 0)...)
	x.dropped()
}

// 19.7: flows end in their time.
func TestFlowsEnd(t *testing.T) {
	x := met(t, natted())
	x.hears(0, framed(port0, hostA, udp(a, far, 9, 1)))
	x.ticks(4)
	if l := x.Flows(); len(l) != 1 || l[0].Left != 1 {
		t.Errorf("flows are %+v", l)
	}
	x.ticks(1)
	if l := x.Flows(); len(l) != 0 {
		t.Errorf("flows are %+v", l)
	}
	x.hears(2, framed(port2, gateway, udp(far, outside, 9, 1)))
	x.dropped(api.ErrNoFlow)
}
