package box_test

import (
	"bytes"
	"slices"
	"testing"

	"weir/api"
)

// 19.14: a complaint comes from the own address of the port by which its receiver is reached.
func TestComplaintsSource(t *testing.T) {
	x := met(t, plain())
	p, q := udp(far, b, 1, 10), udp(far6, b6, 1, 10)
	x.hears(0, framed(port0, hostA, p), framed(port0, hostA, q)) // from far away, by an inside port
	x.tells(2, framed(gateway, port2, complaint(own2, 11, 0, 0, p)), framed(gateway, port2, complaint(own26, 3, 0, 0, q)))
	x.dropped(api.ErrIp4TTL, api.ErrHop6)
	x.quiet()
}

// 19.14: where there is no message, or no route to the source, nothing is made.
func TestNoComplaint(t *testing.T) {
	for _, p := range []api.Packet{
		message(a, b, 1, api.Icmp{Type: 3, Data: pattern(28)}), message(a6, b6, 1, api.Icmp{Type: 1, Data: pattern(48)}), message(a6, b6, 1, api.Icmp{Type: 137}),
		udp("203.0.113.1", b, 1, 10), udp("2001:db8:77::1", b6, 1, 10),
	} {
		x := met(t, plain())
		was := x.Counts()
		x.hears(0, framed(port0, hostA, p))
		x.counts(was.In+1, was.Out, was.Used, was.Made)
		x.quiet()
	}
	x := met(t, plain())
	p := message(a, b, 1, api.Icmp{Type: 8, Data: pattern(28)})
	x.hears(0, framed(port0, hostA, p))
	x.tells(0, framed(hostA, port0, complaint(own0, 11, 0, 0, p)))
}

// 19.14: a complaint has the class 0, whatever the rules say, and waits for its next hop as all else does.
func TestComplaintWaits(t *testing.T) {
	x := made(t, with(plain(), func(c *api.Config) {
		c.Rules = []string{"permit class 7 any"}
	}))
	p := udp(a, b, 1, 10)
	x.hears(0, framed(port0, hostA, p))
	x.tells(0, arp(all, port0, 1, port0, own0, noMac, a))
	x.keeps(api.Kept{Waiting: 1})
	x.counts(1, 1, 0, 2)
	x.hears(0, arp(port0, hostA, 2, hostA, a, port0, own0))
	x.tells(0, framed(hostA, port0, complaint(own0, 11, 0, 0, p)))
	x.dropped(api.ErrIp4TTL)
}

// 19.15: the first that wants a neighbour has it asked for; others wait behind it, as many as may.
func TestWaiting(t *testing.T) {
	x := made(t, plain())
	for n := range 6 {
		x.hears(0, framed(port0, hostA, udp(a, b, 9, n)))
	}
	x.tells(1, arp(all, port1, 1, port1, own1, noMac, b))
	x.keeps(api.Kept{Waiting: 4})
	x.dropped(api.ErrWaiting, api.ErrWaiting)
	x.hears(1, arp(port1, hostB, 2, hostB, b, port1, own1))
	var want [][]byte
	for n := range 4 {
		want = append(want, framed(hostB, port1, hop(udp(a, b, 9, n))))
	}
	x.tells(1, want...)
	y := made(t, with(plain(), func(c *api.Config) { c.Neigh.Max = 1 }))
	y.hears(0, framed(port0, hostA, udp(a, b, 9, 1)), framed(port0, hostA, udp(a, "10.0.1.3", 9, 1)))
	y.dropped(api.ErrNoNeigh)
	y.keeps(api.Kept{Waiting: 1, Tx: 1})
	y.counts(2, 0, 0, 1)
}

// 19.15: all pieces of a datagram wait, and go on one by one.
func TestPiecesWait(t *testing.T) {
	x := made(t, plain())
	p := udp(a, b, 9, 1400)
	x.hears(0, framed(port0, hostA, p))
	x.keeps(api.Kept{Waiting: 2, Tx: 1})
	x.tells(1, arp(all, port1, 1, port1, own1, noMac, b))
	x.hears(1, arp(port1, hostB, 2, hostB, b, port1, own1))
	x.tells(1, cuts(hostB, port1, hop(p), 1280, 0)...)
	y := made(t, with(plain(), func(c *api.Config) { c.Neigh.Line = 1 }))
	y.hears(0, framed(port0, hostA, p))
	y.dropped(api.ErrWaiting)
	y.counts(1, 0, 1, 3) // the datagram is used up, two pieces and the ask are made
}

// 19.15: what waits outlives the buffer in which it came: here each frame comes in the same one.
func TestWaitingOutlivesTheBuffer(t *testing.T) {
	x := made(t, with(plain(), func(c *api.Config) { c.Ports[0].Pool = 1 }))
	p := udp(a, b, 9, 1000)
	p.Ip4.Opts = []api.Opt{{Kind: 148, Data: []byte{1, 2}}}
	x.hears(0, framed(port0, hostA, p), bytes.Repeat([]byte{0x55}, 1500))
	x.hears(1, arp(port1, hostB, 2, hostB, b, port1, own1))
	x.tells(1, arp(all, port1, 1, port1, own1, noMac, b), framed(hostB, port1, hop(p)))
	y := made(t, with(plain(), func(c *api.Config) { c.Ports[0].Pool = 2 }))
	y.meets(0, port0, hostA, a, own0)
	q := carrying(a, b, 9, 99, 0)
	q.Ip4.Data = pattern(500)
	y.hears(0, framed(port0, hostA, q), bytes.Repeat([]byte{0x55}, 1500), bytes.Repeat([]byte{0x55}, 1500))
	y.ticks(9)
	y.tells(0, framed(hostA, port0, complaint(own0, 3, 1, 0, q)))
}

// 19.15, 19.16: a stale neighbour is sent to, and asked at its own MAC behind that.
func TestStaleIsProbed(t *testing.T) {
	x := made(t, plain())
	x.hears(1, arp(all, hostB, 1, hostB, b, noMac, own1), solicitation(port1, hostB, b6, own16, own16, &hostB))
	x.Drain(1)
	x.Drain(1)
	x.hears(0, framed(port0, hostA, udp(a, b, 9, 1)))
	x.tells(1, arp(hostB, port1, 1, port1, own1, noMac, b), framed(hostB, port1, hop(udp(a, b, 9, 1)))) // the ask goes past the queue
	x.hears(0, framed(port0, hostA, udp(a, b, 9, 2)))
	x.tells(1, framed(hostB, port1, hop(udp(a, b, 9, 2))))
	x.hears(0, framed(port0, hostA, udp(a6, b6, 9, 1)))
	x.tells(1, solicitation(hostB, port1, own16, b6, b6, &port1), framed(hostB, port1, hop(udp(a6, b6, 9, 1))))
	x.knows(neighbour(1, b, hostB, api.NProbed), neighbour(1, b6, hostB, api.NProbed))
	x.dropped()
}

// 19.15: behind the frame that was pushed: if the queue refuses the frame, the neighbour is asked all the same.
func TestAskBehindThePush(t *testing.T) {
	x := made(t, with(plain(), func(c *api.Config) { c.Rules = []string{"permit class 3 any"} }))
	x.hears(1, arp(all, hostB, 1, hostB, b, noMac, own1))
	x.Drain(1)
	x.hears(0, framed(port0, hostA, udp(a, b, 9, 1)))
	x.tells(1, arp(hostB, port1, 1, port1, own1, noMac, b))
	x.dropped(api.ErrClass)
}

// 19.15: frames have the tag of the port that they leave by.
func TestTagOfTheWayOut(t *testing.T) {
	x := made(t, with(plain(), func(c *api.Config) { c.Ports[0].Vid, c.Ports[1].Vid = 7, 4094 }))
	x.hears(0, framed(port0, hostA, tagged(7, udp(a, b, 9, 1400))), framed(port0, hostA, tagged(7, udp(a6, b6, 9, 1))))
	x.tells(1, framed(all, port1, tagged(4094, arpPacket(1, port1, own1, noMac, b))), retagged(4094, solicitation(api.Mac{0x33, 0x33, 0xff, 0, 0, 9}, port1, own16, "ff02::1:ff00:9", b6, &port1)))
	x.hears(1, framed(port1, hostB, tagged(4094, arpPacket(2, hostB, b, port1, own1))), retagged(4094, advertisement(port1, hostB, b6, own16, b6, &hostB, true)))
	x.tells(1, append(cuts(hostB, port1, tagged(4094, hop(udp(a, b, 9, 1400))), 1280, 0), framed(hostB, port1, tagged(4094, hop(udp(a6, b6, 9, 1)))))...)
	x.hears(2, framed(port2, gateway, udp(far, b, 9, 1)))
	x.tells(1, framed(hostB, port1, tagged(4094, hop(udp(far, b, 9, 1)))))
	x.hears(1, framed(port1, hostB, tagged(4094, udp(b, "192.0.2.7", 9, 1))))
	x.tells(2, arp(all, port2, 1, port2, own2, noMac, "192.0.2.7"))
	x.dropped()
}

// retagged is a frame without a tag, with one.
func retagged(vid int, frame []byte) []byte {
	return slices.Concat(frame[:12], []byte{0x81, 0, byte(vid >> 8), byte(vid)}, frame[12:])
}

// 19.15: the queue's limits drop pieces.
func TestQueueIsFull(t *testing.T) {
	x := met(t, with(plain(), func(c *api.Config) {
		c.Ports[1].Tx = 1
		c.Classes = []api.Class{{Quantum: 1500, Items: 2, Bytes: 2000}}
	}))
	x.hears(0, framed(port0, hostA, udp(a, b, 9, 900)), framed(port0, hostA, udp(a, b, 9, 901)), framed(port0, hostA, udp(a, b, 9, 1200)))
	x.dropped(api.ErrQFull) // by bytes
	x.hears(0, framed(port0, hostA, udp(a, b, 9, 30)), framed(port0, hostA, udp(a, b, 9, 1)))
	x.dropped(api.ErrQFull, api.ErrQFull) // by items
	x.keeps(api.Kept{Tx: 1, Queued: 2})
	x.tells(1, framed(hostB, port1, hop(udp(a, b, 9, 900))))
	x.Poll(0)
	x.tells(1, framed(hostB, port1, hop(udp(a, b, 9, 901))))
	x.Poll(0)
	x.tells(1, framed(hostB, port1, hop(udp(a, b, 9, 30))))
}

// 19.16: what goes at once is dropped where there is no buffer, where it is too long, or where the TX ring is full; no buffer is lost.
func TestAtOnceRefused(t *testing.T) {
	ask := arp(all, hostA, 1, hostA, a, noMac, own0)
	x := made(t, with(plain(), func(c *api.Config) { c.Ports[0].Tx, c.Ports[0].Pool = 1, 3 }))
	for range 20 {
		x.hears(0, ask)
	}
	x.dropped(slices.Repeat([]api.Errno{api.ErrTxFull}, 19)...)
	x.tells(0, arp(hostA, port0, 2, port0, own0, hostA, a))
	x.counts(20, 1, 20, 20)
	if n := x.Refill(0, 9); n != 3 { // none is lost
		t.Errorf("Refill = %d", n)
	}
	y := made(t, with(plain(), func(c *api.Config) { c.Ports[0].Size, c.Ports[0].Pool = 85, 3 }))
	for range 20 {
		y.hears(0, ask)
		y.tells(0, arp(hostA, port0, 2, port0, own0, hostA, a))
	}
	y.hears(1, framed(port1, hostB, udp(b6, a6, 9, 1)))
	y.dropped(api.ErrBig) // the solicitation has 86 bytes
	y.quiet()
	y.keeps(api.Kept{Waiting: 1})
	if n := y.Refill(0, 9); n != 3 {
		t.Errorf("Refill = %d", n)
	}
	y.hears(1, framed(port1, hostB, udp(b6, "2001:db8::77", 9, 1)))
	y.dropped(api.ErrBig, api.ErrPool) // without a buffer that is told first
}

// 19.16: how a neighbour is asked for: all, if nothing is known of it.
func TestHowIsAsked(t *testing.T) {
	x := made(t, plain())
	x.hears(0, framed(port0, hostA, udp(a, far, 9, 1)), framed(port0, hostA, udp(a6, far6, 9, 1)), framed(port0, hostA, udp(a6, "2001:db8:2::ab:cdef", 9, 1)))
	x.tells(2, arp(all, port2, 1, port2, own2, noMac, via),
		solicitation(api.Mac{0x33, 0x33, 0xff, 0, 0, 9}, port2, own26, "ff02::1:ff00:9", via6, &port2),
		solicitation(api.Mac{0x33, 0x33, 0xff, 0xab, 0xcd, 0xef}, port2, own26, "ff02::1:ffab:cdef", "2001:db8:2::ab:cdef", &port2))
	x.counts(3, 3, 0, 3)
}

// 19.17: a port sends while its TX ring has a place, the classes in their turns.
func TestPortSends(t *testing.T) {
	x := met(t, with(plain(), func(c *api.Config) {
		c.Ports[1].Tx = 2
		c.Classes = append(c.Classes, c.Classes[0])
		c.Rules = []string{"permit class 1 udp to any port 54", "permit any"}
	}))
	var zero, one [][]byte
	for n := range 4 {
		x.hears(0, framed(port0, hostA, udp(a, b, 9, 1000+n)))
		zero = append(zero, framed(hostB, port1, hop(udp(a, b, 9, 1000+n))))
	}
	for n := range 4 {
		p := udpPorts(a, 1, b, 54, 9, 1000+n)
		x.hears(0, framed(port0, hostA, p))
		one = append(one, framed(hostB, port1, hop(p)))
	}
	x.keeps(api.Kept{Tx: 2, Queued: 6})
	x.tells(1, zero[0], zero[1])
	x.Poll(0)
	x.keeps(api.Kept{Tx: 2, Queued: 4})
	x.tells(1, one[0], zero[2])
	x.Tick() // sends, too
	x.tells(1, one[1], zero[3])
	x.Poll(0)
	x.tells(1, one[2], one[3]) // class 1 has saved enough for two
	x.dropped()
}

// 19.17: what is longer than a buffer, and what finds none, is dropped.
func TestSendRefused(t *testing.T) {
	x := met(t, with(plain(), func(c *api.Config) { c.Ports[1].Size, c.Ports[1].Pool = 100, 2 }))
	x.hears(0, framed(port0, hostA, udp(a, b, 9, 58)), framed(port0, hostA, udp(a, b, 9, 59)))
	x.dropped(api.ErrBig)
	x.tells(1, framed(hostB, port1, hop(udp(a, b, 9, 58))))
	if n := x.Refill(1, 9); n != 2 {
		t.Fatalf("Refill = %d", n)
	}
	x.hears(0, framed(port0, hostA, udp(a, b, 9, 58)))
	x.dropped(api.ErrBig, api.ErrPool)
	x.hears(0, framed(port0, hostA, udp(a, b, 9, 59))) // that it is too long is told first
	x.dropped(api.ErrBig, api.ErrBig, api.ErrPool)
	x.keeps(api.Kept{})
	x.quiet()
}

// 19.17: a class that is held up waits for its tokens; the ticks bring them.
func TestShaped(t *testing.T) {
	x := met(t, with(plain(), func(c *api.Config) {
		c.Ports[1].MTU, c.Ports[1].Size, c.Ports[0].Size = 9000, 9100, 9100
		c.Classes[0].Rate, c.Classes[0].Burst = 1000, 65535
	}))
	for range 9 {
		x.hears(0, framed(port0, hostA, udp(a, b, 9, 8000)))
	}
	x.keeps(api.Kept{Tx: 8, Queued: 1}) // 8 * 8042 of 65535
	x.ticks(6)
	x.keeps(api.Kept{Tx: 8, Queued: 1})
	x.ticks(1)
	x.keeps(api.Kept{Tx: 9})
}

// 19.14 to 19.17: a lost ask is asked again in its time.
func TestLostAskIsAskedAgain(t *testing.T) {
	x := made(t, with(plain(), func(c *api.Config) { c.Ports[1].Tx = 1 }))
	x.hears(0, framed(port0, hostA, udp(a, b, 9, 1)), framed(port0, hostA, udp(a, "10.0.1.10", 9, 1)))
	x.dropped(api.ErrTxFull)
	x.tells(1, arp(all, port1, 1, port1, own1, noMac, b))
	x.ticks(3)
	x.tells(1, arp(all, port1, 1, port1, own1, noMac, b))
	x.dropped(api.ErrTxFull, api.ErrTxFull)
}
