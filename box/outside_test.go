package box_test

import (
	"bytes"
	"math"
	"slices"
	"testing"

	"weir/api"
	"weir/box"
)

// 19.3: a frame that comes to no port is not counted; one that the ring refuses is, and dropped for the ring's reason.
func TestArrive(t *testing.T) {
	x := made(t, plain())
	for _, port := range []int{-1, 3, 8, math.MinInt, math.MaxInt} {
		if e := x.Arrive(port, pattern(60)); e != api.ErrArg {
			t.Errorf("Arrive(%d) = %d", port, e)
		}
		if e := x.Arrive(port, make([]byte, 70000)); e != api.ErrArg {
			t.Errorf("Arrive(%d) = %d", port, e)
		}
	}
	x.counts(0, 0, 0, 0)
	x.dropped()
	for i, f := range []struct {
		bytes int
		want  api.Errno
	}{{60, api.ErrRxFull}, {2048, api.ErrRxFull}, {2049, api.ErrBig}, {65535, api.ErrBig}, {65536, api.ErrLong}} {
		if e := x.Arrive(2, make([]byte, f.bytes)); e != f.want {
			t.Errorf("Arrive of %d bytes = %d, want %d", f.bytes, e, f.want)
		}
		x.counts(i+1, 0, 0, 0)
		x.balances()
	}
	x.dropped(api.ErrLong, api.ErrBig, api.ErrBig, api.ErrRxFull, api.ErrRxFull)
	x.Refill(1, 1)
	if e := x.Arrive(1, make([]byte, 2048)); e != api.OK {
		t.Errorf("Arrive = %d", e)
	}
	if e := x.Arrive(0, nil); e != api.ErrRxFull {
		t.Errorf("Arrive = %d", e)
	}
	x.keeps(api.Kept{Rx: 1})
	x.counts(7, 0, 0, 0)
}

// 19.4: buffers are posted by port; none where there is no port.
func TestRefill(t *testing.T) {
	x := made(t, with(plain(), func(c *api.Config) { c.Ports[1].Rx, c.Ports[2].Pool = 3, 2 }))
	for _, r := range []struct{ port, n, want int }{
		{-1, 1, 0}, {3, 1, 0}, {math.MaxInt, 1, 0}, {math.MinInt, 1, 0}, {0, 0, 0}, {0, -1, 0}, {0, math.MinInt, 0},
		{0, 5, 5}, {0, 5, 3}, {0, 1, 0}, {1, 9, 3}, {2, math.MaxInt, 2}, {2, 1, 0},
	} {
		if n := x.Refill(r.port, r.n); n != r.want {
			t.Errorf("Refill(%d, %d) = %d, want %d", r.port, r.n, n, r.want)
		}
	}
	for range 3 {
		x.Arrive(1, nil)
	}
	if e := x.Arrive(1, nil); e != api.ErrRxFull {
		t.Errorf("Arrive = %d", e)
	}
	x.keeps(api.Kept{Rx: 3})
}

// 19.5: what lies in a TX ring is told by its port, in order, and counted.
func TestDrain(t *testing.T) {
	x := met(t, plain())
	x.hears(0, framed(port0, hostA, udp(a, b, 9, 1)), framed(port0, hostA, udp(a, b, 9, 2)))
	was := x.Counts()
	for _, port := range []int{-1, 3, math.MinInt, math.MaxInt, 0, 2} {
		if f, ok := x.Drain(port); ok || len(f) > 0 {
			t.Errorf("Drain(%d) = %x, %v", port, f, ok)
		}
	}
	x.counts(was.In, was.Out, was.Used, was.Made)
	x.tells(1, framed(hostB, port1, hop(udp(a, b, 9, 1))), framed(hostB, port1, hop(udp(a, b, 9, 2))))
	x.counts(was.In, was.Out+2, was.Used, was.Made)
}

// order is the sizes of the datagrams that left by a port.
func order(x *bench, port int) (l []int) {
	x.Helper()
	for {
		f, ok := x.Drain(port)
		if !ok {
			return l
		}
		l = append(l, len(f)-42)
	}
}

// 19.6: the ports take turns, from the one behind the port of the last frame on; the turn is kept from Poll to Poll.
func TestTurns(t *testing.T) {
	c := plain()
	c.Routes = append(c.Routes, api.Route{Prefix: net("172.16.0.0/12"), Port: 2, Via: ip(via)})
	arrive := func(x *bench, port int, sizes ...int) {
		from := []string{a, b, "192.0.2.77"}[port]
		for _, n := range sizes {
			x.Refill(port, 1)
			if e := x.Arrive(port, framed([]api.Mac{port0, port1, port2}[port], hostA, udp(from, "172.16.0.1", 9, n))); e != api.OK {
				t.Fatal(e)
			}
		}
	}
	told := func(x *bench, want ...int) {
		t.Helper()
		if l := order(x, 2); !slices.Equal(l, want) {
			t.Errorf("went through %v, want %v", l, want)
		}
	}
	x := made(t, c)
	x.meets(2, port2, gateway, via, own2) // the last frame came by port 2
	arrive(x, 2, 301, 302)
	arrive(x, 1, 201)
	arrive(x, 0, 101, 102, 103)
	if n := x.Poll(4); n != 4 {
		t.Errorf("Poll(4) = %d", n)
	}
	told(x, 101, 201, 301, 102) // port 1 has none any more, port 2 is behind port 0
	arrive(x, 0, 104)
	arrive(x, 1, 202)
	if n := x.Poll(2); n != 2 {
		t.Errorf("Poll(2) = %d", n)
	}
	told(x, 202, 302)
	if n := x.Poll(math.MaxInt); n != 2 {
		t.Errorf("Poll = %d", n)
	}
	told(x, 103, 104)
	x.Poll(5) // without a frame the turn stays: port 1 is the next
	arrive(x, 0, 105)
	arrive(x, 2, 303)
	arrive(x, 1, 203)
	x.Poll(3)
	told(x, 203, 303, 105)
	fresh := made(t, c)
	arrive(fresh, 1, 201)
	arrive(fresh, 0, 101)
	fresh.Poll(2)
	fresh.hears(2, arp(port2, gateway, 2, gateway, via, port2, own2))
	fresh.Drain(2)
	told(fresh, 101, 201)
}

// 19.6: no frame more than asked for is gone through.
func TestPollCounts(t *testing.T) {
	x := made(t, plain())
	x.Refill(0, 8)
	for range 5 {
		x.Arrive(0, nil)
	}
	for _, p := range []struct{ n, want, left int }{{0, 0, 5}, {-1, 0, 5}, {math.MinInt, 0, 5}, {1, 1, 4}, {2, 2, 2}, {3, 2, 0}, {1, 0, 0}} {
		if n := x.Poll(p.n); n != p.want {
			t.Errorf("Poll(%d) = %d, want %d", p.n, n, p.want)
		}
		x.keeps(api.Kept{Rx: p.left})
		x.balances()
	}
	x.dropped(api.ErrRunt, api.ErrRunt, api.ErrRunt, api.ErrRunt, api.ErrRunt)
}

// 19.6: each port sends behind the last frame, and where there is none, too.
func TestPollSends(t *testing.T) {
	for _, n := range []int{0, -5, 1, 100} {
		x := met(t, with(plain(), func(c *api.Config) { c.Ports[0].Tx, c.Ports[1].Tx = 1, 1 }))
		one, two := udp(a, b, 9, 1), udp(a, b, 9, 2)
		back := udp(b, a, 9, 3)
		x.hears(1, framed(port1, hostB, back), framed(port1, hostB, back))
		x.hears(0, framed(port0, hostA, one), framed(port0, hostA, two))
		x.keeps(api.Kept{Queued: 2, Tx: 2})
		x.tells(0, framed(hostA, port0, hop(back)))
		x.tells(1, framed(hostB, port1, hop(one)))
		x.Poll(n)
		x.keeps(api.Kept{Tx: 2})
		x.tells(0, framed(hostA, port0, hop(back)))
		x.tells(1, framed(hostB, port1, hop(two)))
	}
}

// 19.6: while a frame is handled its buffer is held; behind that it is free again.
func TestBufferIsHeldAndReleased(t *testing.T) {
	x := made(t, with(plain(), func(c *api.Config) { c.Ports[0].Pool = 1 }))
	ask := arp(all, hostA, 1, hostA, a, noMac, own0)
	for i := range 5 {
		if n := x.Refill(0, 9); n != 1 {
			t.Fatalf("Refill behind %d frames = %d", i, n)
		}
		x.Arrive(0, ask)
		x.Poll(1)
		x.balances()
	}
	x.dropped(slices.Repeat([]api.Errno{api.ErrPool}, 5)...) // no buffer was free for the answer
	x.quiet()
	y := made(t, with(plain(), func(c *api.Config) { c.Ports[0].Pool = 2 }))
	for range 50 {
		y.hears(0, ask)
		y.tells(0, arp(hostA, port0, 2, port0, own0, hostA, a))
	}
	y.dropped()
}

// 19.8: what is kept where, and what is counted.
func TestKeptAndCounts(t *testing.T) {
	x := met(t, with(plain(), func(c *api.Config) {
		c.Ports[1].Tx = 1
		c.Classes = append(c.Classes, c.Classes[0])
		c.Rules = []string{"permit class 1 udp to any port 54", "permit any"}
	}))
	was := x.Counts()
	x.hears(0, framed(port0, hostA, udp(a, b, 9, 1)), framed(port0, hostA, udp(a, b, 9, 1)), framed(port0, hostA, udpPorts(a, 1, b, 54, 9, 1)))
	x.hears(0, framed(port0, hostA, udp(a, "10.0.1.77", 9, 1)))
	x.dropped(api.ErrTxFull) // the ask
	x.hears(0, cuts(port0, hostA, udp(a, b, 9, 1400), 600, 0)[0])
	x.Refill(2, 5)
	x.Arrive(2, nil)
	x.Arrive(2, nil)
	x.keeps(api.Kept{Rx: 2, Frags: 1, Waiting: 1, Queued: 2, Tx: 1})
	x.counts(was.In+7, was.Out, was.Used, was.Made+1)
	x.Poll(1)
	x.hears(0, framed(port0, hostA, udp(a, own0, 9, 1)))
	x.Poll(9)
	x.dropped(api.ErrTxFull, api.ErrRunt, api.ErrRunt, api.ErrLocal)
	x.keeps(api.Kept{Frags: 1, Waiting: 1, Queued: 2, Tx: 1})
}

// 19.8: Neighbours and Flows are those of the parts.
func TestNeighboursAndFlows(t *testing.T) {
	x := met(t, natted())
	x.knows(neighbour(0, a, hostA, api.NFresh), neighbour(0, a6, hostA, api.NFresh), neighbour(1, b, hostB, api.NFresh),
		neighbour(1, b6, hostB, api.NFresh), neighbour(2, via, gateway, api.NFresh), neighbour(2, via6, gateway, api.NFresh))
	x.hears(0, framed(port0, hostA, udp(a, far, 9, 1)))
	want := []api.Flow{{Tuple: api.Tuple{Proto: 17, Src: ip(a), Dst: ip(far), Sport: 5000, Dport: 53}, Port: 1000, State: api.FAlive, Left: 5}}
	if l := x.Flows(); !slices.Equal(l, want) {
		t.Errorf("flows are %+v", l)
	}
	y := met(t, plain())
	y.hears(0, framed(port0, hostA, udp(a, far, 9, 1)))
	if l := y.Flows(); len(l) > 0 {
		t.Errorf("flows are %+v", l)
	}
}

// 19.20: answers are new memory, spare room too.
func TestAnswersAreNew(t *testing.T) {
	x := met(t, with(natted(), func(c *api.Config) { c.Ports[0].Pool = 2 }))
	x.hears(0, framed(port0, hostA, udp(a, far, 9, 1)), framed(port0, hostA, udp(a, own0, 9, 1)), nil)
	x.Drain(2)
	for range 3 {
		n, l, f := x.Counts(), x.Neighbours(), x.Flows()
		if len(n.Drops) != 2 || len(l) != 6 || len(f) != 1 {
			t.Fatalf("told are %v, %v, %v", n, l, f)
		}
		for _, d := range n.Drops[:cap(n.Drops)] {
			if d != (api.Drop{}) && d.N != 1 {
				t.Errorf("in the spare room stands %v", d)
			}
		}
		clear(n.Drops[:cap(n.Drops)])
		clear(l[:cap(l)])
		clear(f[:cap(f)])
	}
	ask, answer := arp(all, hostA, 1, hostA, a, noMac, own0), arp(hostA, port0, 2, port0, own0, hostA, a)
	for range 4 {
		x.hears(0, ask)
		f, _ := x.Drain(0)
		if !bytes.Equal(f, answer) {
			t.Errorf("told is %x", f)
		}
		f = f[:cap(f)]
		for i := range f {
			f[i] = 0x55
		}
	}
}

// 19.20: two boxes have nothing in common.
func TestTwoBoxes(t *testing.T) {
	x, y := met(t, plain()), made(t, plain())
	x.hears(0, framed(port0, hostA, udp(a, b, 9, 1)))
	y.counts(0, 0, 0, 0)
	y.knows()
	y.quiet()
	x.tells(1, framed(hostB, port1, hop(udp(a, b, 9, 1))))
	if e := box.Check(plain()); e != api.OK {
		t.Error(e)
	}
}
