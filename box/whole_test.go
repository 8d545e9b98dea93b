package box_test

import (
	"bytes"
	"testing"

	"weir/api"
	"weir/box"
	"weir/packet"
)

// example is the box of the chapter's examples.
func example() api.Config {
	c := plain()
	c.Ports, c.Routes = c.Ports[:2], nil
	c.Ports[1].Net6 = api.Prefix{}
	for i := range c.Ports {
		c.Ports[i].Rx, c.Ports[i].Tx, c.Ports[i].Pool = 8, 8, 32
	}
	return c
}

// The chapter's examples, in turn.
func TestExamples(t *testing.T) {
	x := made(t, example())
	if e := x.Arrive(0, pattern(60)); e != api.ErrRxFull { // 1
		t.Errorf("Arrive = %d", e)
	}
	x.counts(1, 0, 0, 0)
	x.dropped(api.ErrRxFull)
	if n := x.Refill(0, 4); n != 4 { // 2
		t.Errorf("Refill = %d", n)
	}
	x.Arrive(0, arp(all, hostA, 1, hostA, a, noMac, own0))
	if n := x.Poll(1); n != 1 {
		t.Errorf("Poll = %d", n)
	}
	answer := arp(hostA, port0, 2, port0, own0, hostA, a)
	if len(answer) != 60 {
		t.Errorf("the answer has %d bytes", len(answer))
	}
	x.tells(0, answer)
	x.counts(2, 1, 1, 1)
	x.knows(neighbour(0, a, hostA, api.NStale))
	x.hears(0, framed(port0, hostA, udp(a, b, 64, 5))) // 3
	x.tells(1, arp(all, port1, 1, port1, own1, noMac, b))
	x.keeps(api.Kept{Waiting: 1})
	x.hears(1, arp(port1, hostB, 2, hostB, b, port1, own1))
	x.tells(1, framed(hostB, port1, udp(a, b, 63, 5)))
	x.hears(0, framed(port0, hostA, udp(a, b, 1, 5))) // 4
	x.tells(0, arp(hostA, port0, 1, port0, own0, noMac, a), framed(hostA, port0, complaint(own0, 11, 0, 0, udp(a, b, 1, 5))))
	x.dropped(api.ErrRxFull, api.ErrIp4TTL)
	lost := udp(a, "10.9.9.9", 64, 5) // 5
	x.hears(0, framed(port0, hostA, lost))
	x.tells(0, framed(hostA, port0, complaint(own0, 3, 0, 0, lost)))
	x.dropped(api.ErrRxFull, api.ErrIp4TTL, api.ErrNoRoute)
	x.hears(0, framed(port0, hostA, noCut(udp(a, b, 64, 1400)))) // 6
	x.tells(0, framed(hostA, port0, complaint(own0, 3, 4, 1280, noCut(udp(a, b, 64, 1400)))))
	x.dropped(api.ErrRxFull, api.ErrIp4TTL, api.ErrDF, api.ErrNoRoute)
	x.hears(0, framed(port0, hostA, udp(a, b, 64, 1400)))
	l := cuts(hostB, port1, udp(a, b, 63, 1400), 1280, 0)
	if len(l) != 2 {
		t.Errorf("%d frames", len(l))
	}
	x.tells(1, l...)
	x.hears(0, framed(port0, hostA, udp(a6, "ff02::1", 64, 5))) // 7
	x.dropped(api.ErrRxFull, api.ErrIp4TTL, api.ErrDF, api.ErrLocal, api.ErrNoRoute)
	x.keeps(api.Kept{})
}

// sent is what is known of a packet that left by the port outside: who began it, as it was inside.
type sent struct {
	port int
	p    api.Packet
}

// W5: what comes back to a flow's outside address and port reaches, by its inside tuple, who began it; no two live flows
// share a port, and what was translated has right sums.
func TestTranslationIsNotSeen(t *testing.T) {
	back := 0
	for seed := range int64(100) {
		c := with(natted(), func(c *api.Config) { c.Flow.Max, c.Flow.Hi, c.Neigh.Fresh = 40, 1030, 1<<20 })
		d := &dice{Rand: rolled(seed).Rand, c: c}
		x := met(t, c)
		began := map[api.Tuple]sent{} // by the tuple outside
		for range 60 {
			in := d.Intn(2)
			from, own, mac := []string{a, b}[in], []api.Mac{port0, port1}[in], []api.Mac{hostA, hostB}[in]
			sport, dport := d.of(1, 1000, 1001, 1002, 5000), d.of(53, 80)
			p := udpPorts(from, sport, far, dport, 9, d.Intn(100))
			if d.once(2) {
				p = echo(from, far, 9, 8, sport, d.Intn(100))
			}
			x.hears(in, framed(own, mac, p))
			f, ok := x.Drain(2)
			if !ok {
				t.Fatalf("%+v does not go out: %+v", p, x.Counts())
			}
			if wrong := vouches(c, 2, f); wrong != "" {
				t.Fatalf("%x: %s", f, wrong)
			}
			q, _ := packet.Parse(f)
			y, _ := packet.Tuple(q)
			inside, _ := packet.Tuple(p)
			if was, ok := began[y]; ok {
				if z, _ := packet.Tuple(was.p); z != inside && live(x, z) {
					t.Fatalf("%+v and %+v go out alike", z, inside)
				}
			}
			began[y] = sent{in, p}
			if q.Ip4.Src != ip(outside) || shared(x.Flows()) {
				t.Fatalf("it went out as %+v", q)
			}
			if d.once(5) {
				x.ticks(d.Intn(3))
			}
			for y, was := range began {
				if z, _ := packet.Tuple(was.p); !live(x, z) {
					delete(began, y)
				}
			}
			back += x.comesBack(d, began)
		}
	}
	if back < 1000 {
		t.Errorf("only %d came back", back)
	}
}

// live tells whether a flow is there.
func live(x *bench, z api.Tuple) bool {
	for _, f := range x.Flows() {
		if f.Tuple == z {
			return true
		}
	}
	return false
}

// comesBack answers each flow that began, and wants the answer to reach who began it.
func (x *bench) comesBack(d *dice, began map[api.Tuple]sent) int {
	x.Helper()
	n := 0
	for y, was := range began {
		answer := d.answering(was.p, packet.Reverse(y))
		if answer.L4 == api.LIcmp {
			answer.Icmp.Rest = y.Sport<<16 | was.p.Icmp.Rest&0xffff
		}
		x.hears(2, framed(port2, gateway, answer))
		inside, _ := packet.Tuple(was.p)
		want := d.answering(was.p, packet.Reverse(inside))
		own, mac := []api.Mac{port0, port1}[was.port], []api.Mac{hostA, hostB}[was.port]
		x.tells(was.port, framed(mac, own, hop(want)))
		n++
	}
	return n
}

// 19.18: of each port's buffers none is lost: those that are not posted are free, once all frames have gone.
func TestNoBufferIsLost(t *testing.T) {
	for seed := range int64(100) {
		d := rolled(seed)
		x, _ := box.New(d.c)
		posted := make([]int, len(d.c.Ports))
		for range 300 {
			port := d.Intn(len(posted))
			posted[port] += x.Refill(port, d.of(0, 1, 2))
			if x.Arrive(port, d.frame(port)) == api.OK {
				posted[port]--
			}
			if d.once(3) {
				x.Poll(d.of(1, 2, 5))
			}
			if d.once(10) {
				x.Tick()
			}
			if d.once(3) {
				x.Drain(port)
			}
		}
		for k := x.Kept(); k.Rx+k.Tx+k.Queued > 0; k = x.Kept() {
			x.Poll(100)
			x.Tick() // tokens, for what is held up
			for port := range posted {
				for _, ok := x.Drain(port); ok; _, ok = x.Drain(port) {
				}
			}
		}
		for port, p := range d.c.Ports {
			want := min(p.Pool, p.Rx) - posted[port]
			if n := x.Refill(port, 1<<30); n != want {
				t.Fatalf("of port %d %d buffers are free, want %d: %+v", port, n, want, p)
			}
		}
	}
}

// 19.20: bytes of any kind, with the beginnings of frames or without, do no harm.
func TestAnyBytes(t *testing.T) {
	for seed := range int64(40) {
		d := rolled(seed)
		x := made(t, d.c)
		for range 400 {
			port := d.Intn(len(d.c.Ports))
			b := d.frame(port)
			if len(b) > 0 {
				b = bytes.Clone(b[:d.Intn(len(b)+1)])
				for range d.Intn(4) {
					if len(b) > 0 {
						b[d.Intn(len(b))] = byte(d.of(0, 1, 4, 6, 44, 58, 255, d.Intn(256)))
					}
				}
			}
			x.Refill(port, 1)
			x.Arrive(port, b)
			x.Poll(1)
			if d.once(9) {
				x.Tick()
			}
			x.balances()
			for p := range d.c.Ports {
				if f, ok := x.Drain(p); ok && vouches(d.c, p, f) != "" {
					t.Fatalf("port %d tells %x: %s", p, f, vouches(d.c, p, f))
				}
			}
		}
	}
}
