package box_test

import (
	"testing"

	"weir/api"
	"weir/link"
)

// raw is a frame of any type and bytes, with tags.
func raw(dst, src api.Mac, typ int, data []byte, tags ...api.Tag) []byte {
	b, e := link.Serialise(api.Frame{Dst: dst, Src: src, Tags: tags, Type: typ, Data: data})
	if e != api.OK {
		panic(e)
	}
	return b
}

func tag(tpid, vid int) api.Tag { return api.Tag{TPID: tpid, VID: vid} }

// refusesFrame wants a frame that comes by a port of a fresh box to be dropped for that reason, and nothing else to happen.
func refusesFrame(t *testing.T, c api.Config, port int, frame []byte, want api.Errno) {
	t.Helper()
	x := made(t, c)
	x.hears(port, frame)
	x.dropped(want)
	x.counts(1, 0, 0, 0)
	x.keeps(api.Kept{})
	x.knows()
	x.quiet()
}

// 19.9: the first refusal, from the frame's first byte on.
func TestFrameRefused(t *testing.T) {
	c := plain()
	good := framed(port0, hostA, udp(a, b, 9, 30))
	for _, r := range []struct {
		frame []byte
		want  api.Errno
	}{
		{nil, api.ErrRunt},
		{make([]byte, 13), api.ErrRunt},
		{raw(port0, hostA, 0x600, nil)[:13], api.ErrRunt},
		{append(append(append([]byte{}, port0[:]...), all[:]...), 8, 0), api.ErrSource},
		{append(append(append([]byte{}, port0[:]...), hostA[:]...), 5, 0xff), api.ErrType},
		{raw(hostB, hostA, 0x88cc, nil, tag(0x8100, 1)), api.ErrVlan},
		{raw(hostB, hostA, 0x88cc, nil), api.ErrNotMine},
		{raw(port1, hostA, 0x800, nil), api.ErrNotMine},
		{raw(port0, hostA, 0x88cc, pattern(46)), api.ErrEther},
		{raw(all, hostA, 0x88cc, pattern(46)), api.ErrEther},
		{raw(api.Mac{1}, hostA, 0x88cc, pattern(46)), api.ErrEther},
		{raw(port0, hostA, 0x806, pattern(27)), api.ErrArpShort},
		{raw(port0, hostA, 0x800, make([]byte, 46)), api.ErrIp4Version},
		{raw(port0, hostA, 0x86dd, make([]byte, 39)), api.ErrShort6},
		{raw(port0, hostA, 0x86dd, make([]byte, 40)), api.ErrVersion6},
		{turned(good, len(good)-1), api.ErrUdpSum},
		{turned(good, 14+8), api.ErrIp4Sum},
		{turned(framed(port0, hostA, udp(a6, b6, 9, 30)), 90), api.ErrUdpSum},
		{turned(framed(port0, hostA, echo(a, own0, 9, 8, 1, 30)), 60), api.ErrIcmpSum},
	} {
		refusesFrame(t, c, 0, r.frame, r.want)
	}
}

// turned is a frame with one byte turned over.
func turned(frame []byte, at int) []byte {
	f := append([]byte{}, frame...)
	f[at] ^= 0x41
	return f
}

// 19.9: a port without a virtual net takes no tag; one with it just that tag, whatever its priority.
func TestTags(t *testing.T) {
	vid := with(plain(), func(c *api.Config) { c.Ports[0].Vid = 7 })
	ask := arpPacket(1, hostA, a, noMac, own0)
	withTags := func(l ...api.Tag) []byte {
		p := ask
		p.Tags = l
		return framed(all, hostA, p)
	}
	for _, tags := range [][]api.Tag{{tag(0x8100, 0)}, {tag(0x8100, 7)}, {tag(0x88a8, 7)}, {tag(0x88a8, 7), tag(0x8100, 7)}} {
		refusesFrame(t, plain(), 0, withTags(tags...), api.ErrVlan)
	}
	for _, tags := range [][]api.Tag{
		nil, {tag(0x8100, 0)}, {tag(0x8100, 6)}, {tag(0x8100, 8)}, {tag(0x88a8, 7)}, {tag(0x8100, 4094)},
		{tag(0x88a8, 7), tag(0x8100, 7)}, {tag(0x8100, 7), tag(0x8100, 7)}, {tag(0x8100, 7), tag(0x8100, 1)},
	} {
		refusesFrame(t, vid, 0, withTags(tags...), api.ErrVlan)
	}
	answer := tagged(7, arpPacket(2, port0, own0, hostA, a))
	for pcp := range 8 {
		x := made(t, vid)
		x.hears(0, withTags(api.Tag{TPID: 0x8100, VID: 7, PCP: pcp, DEI: pcp%2 == 1}))
		x.tells(0, framed(hostA, port0, answer))
		x.dropped()
	}
	x := made(t, with(vid, func(c *api.Config) { c.Ports[0].Vid = 4094 }))
	x.hears(0, withTags(tag(0x8100, 4094)))
	x.tells(0, framed(hostA, port0, tagged(4094, arpPacket(2, port0, own0, hostA, a))))
	refusesFrame(t, vid, 0, raw(hostB, hostA, 0x88cc, nil, tag(0x8100, 7)), api.ErrNotMine)
}

// 19.9: what is sent to the port, to all and to groups is taken; what stands behind a packet does not matter.
func TestForWhomTheFrameIs(t *testing.T) {
	for _, dst := range []api.Mac{port0, all, {1}, {0x33, 0x33, 0, 0, 0, 1}} {
		x := made(t, plain())
		x.hears(0, append(arp(dst, hostA, 1, hostA, a, noMac, own0), 1, 2, 3))
		x.tells(0, arp(hostA, port0, 2, port0, own0, hostA, a))
	}
}

// 19.10: ARP from who is not on the link, or says to be the box.
func TestArpStrangers(t *testing.T) {
	ask := func(from string) []byte { return arp(all, hostA, 1, hostA, from, noMac, own0) }
	for _, from := range []string{"10.0.1.9", "10.0.2.0", "9.255.255.255", "0.0.0.0", own0, own1, own2, "192.0.2.7"} {
		refusesFrame(t, plain(), 0, ask(from), api.ErrStranger)
		refusesFrame(t, plain(), 0, arp(port0, hostA, 2, hostA, from, port0, own0), api.ErrStranger)
		refusesFrame(t, plain(), 0, arp(all, hostA, 1, hostA, from, noMac, "10.0.0.77"), api.ErrStranger)
	}
	none := with(plain(), func(c *api.Config) { c.Ports[0].Net4 = api.Prefix{} })
	refusesFrame(t, none, 0, ask(a), api.ErrStranger)
	refusesFrame(t, none, 0, ask("0.0.0.0"), api.ErrStranger)
	for _, from := range []string{"10.0.0.0", "10.0.0.255", "10.0.0.2"} {
		x := made(t, plain())
		x.hears(0, ask(from))
		x.tells(0, arp(hostA, port0, 2, port0, own0, hostA, from))
		x.knows(neighbour(0, from, hostA, api.NStale))
		x.counts(1, 1, 1, 1)
	}
	wide := made(t, with(plain(), func(c *api.Config) { c.Ports[0].Net4 = net("10.0.0.1/1") }))
	wide.hears(0, ask("0.0.0.0"), ask("127.0.0.1"))
	wide.tells(0, arp(hostA, port0, 2, port0, own0, hostA, "0.0.0.0"), arp(hostA, port0, 2, port0, own0, hostA, "127.0.0.1"))
}

// 19.10: a request for the port is learnt from and answered, to the frame's source, whatever the message says of link addresses.
func TestArpRequest(t *testing.T) {
	x := made(t, plain())
	x.hears(0, arp(port0, hostB, 1, hostA, a, gateway, own0))
	x.tells(0, arp(hostB, port0, 2, port0, own0, hostA, a))
	x.knows(neighbour(0, a, hostA, api.NStale))
	x.hears(0, arp(all, hostB, 1, hostB, a, noMac, own0)) // it has another MAC now
	x.tells(0, arp(hostB, port0, 2, port0, own0, hostB, a))
	x.knows(neighbour(0, a, hostB, api.NStale))
	x.counts(2, 2, 2, 2)
	x.hears(1, arp(all, hostB, 1, hostB, b, noMac, own1))
	x.tells(1, arp(hostB, port1, 2, port1, own1, hostB, b))
	x.dropped()
}

// 19.10: an answer confirms, and is not answered; without an entry it is nothing.
func TestArpAnswer(t *testing.T) {
	x := made(t, plain())
	answer := arp(port0, hostA, 2, hostA, a, port0, own0)
	x.hears(0, answer)
	x.knows()
	x.counts(1, 0, 1, 0)
	x.hears(0, arp(all, hostA, 1, hostA, a, noMac, own0), answer)
	x.knows(neighbour(0, a, hostA, api.NFresh))
	x.tells(0, arp(hostA, port0, 2, port0, own0, hostA, a))
	x.counts(3, 1, 3, 1)
	x.dropped()
}

// 19.10: what is asked of, or told to, others is seen by the way: it makes no entry, but turns one that is there.
func TestArpSeen(t *testing.T) {
	for op := 1; op <= 2; op++ {
		for _, other := range []string{"10.0.0.77", a, own1, own2, outside, "10.0.9.9"} {
			seen := func(mac api.Mac) []byte { return arp(all, mac, op, mac, a, noMac, other) }
			x := made(t, plain())
			x.hears(0, seen(hostA))
			x.knows()
			x.meets(0, port0, hostA, a, own0)
			x.hears(0, seen(hostA))
			x.knows(neighbour(0, a, hostA, api.NFresh))
			x.hears(0, seen(hostB))
			x.knows(neighbour(0, a, hostB, api.NStale))
			x.quiet()
			x.counts(5, 1, 5, 1)
			x.dropped()
		}
	}
}

// 19.10: what waited for a neighbour goes on, in its order, ahead of the answer to who asked; however it was learnt.
func TestArpLetsItemsGo(t *testing.T) {
	for _, learnt := range []struct {
		frame []byte
		more  [][]byte
		state int
	}{
		{arp(port1, hostB, 2, hostB, b, port1, own1), nil, api.NFresh},
		{arp(all, hostB, 1, hostB, b, noMac, own1), [][]byte{arp(hostB, port1, 2, port1, own1, hostB, b)}, api.NStale},
		{arp(all, hostB, 1, hostB, b, noMac, "10.0.1.3"), nil, api.NStale},
		{arp(all, hostB, 2, hostB, b, noMac, "10.0.1.3"), nil, api.NStale},
	} {
		x := made(t, plain())
		for n := range 3 {
			x.hears(0, framed(port0, hostA, udp(a, b, 9, n)))
		}
		x.keeps(api.Kept{Waiting: 3, Tx: 1})
		x.tells(1, arp(all, port1, 1, port1, own1, noMac, b))
		x.hears(1, learnt.frame)
		x.knows(neighbour(1, b, hostB, learnt.state))
		want := learnt.more // at once, past the queue
		for n := range 3 {
			want = append(want, framed(hostB, port1, hop(udp(a, b, 9, n))))
		}
		x.tells(1, want...)
		x.keeps(api.Kept{})
		x.dropped()
	}
}

// 19.10: the outside address is ours on the port outside of which it is, and there alone.
func TestArpForOutside(t *testing.T) {
	x := made(t, natted())
	x.hears(2, arp(all, gateway, 1, gateway, via, noMac, outside))
	x.tells(2, arp(gateway, port2, 2, port2, outside, gateway, via))
	x.knows(neighbour(2, via, gateway, api.NStale))
	x.hears(2, arp(port2, gateway, 2, gateway, via, port2, outside))
	x.knows(neighbour(2, via, gateway, api.NFresh))
	x.hears(0, arp(all, hostA, 1, hostA, a, noMac, outside))
	x.quiet()
	x.knows(neighbour(2, via, gateway, api.NFresh))
	x.dropped()
	x.hears(2, arp(all, gateway, 1, gateway, outside, noMac, own2)) // it is no own address of a port
	x.tells(2, arp(gateway, port2, 2, port2, own2, gateway, outside))
	y := made(t, plain())
	y.hears(2, arp(all, gateway, 1, gateway, via, noMac, outside))
	y.quiet()
	y.knows()
}

// 19.10: where there is no room for a neighbour, who asks is answered all the same.
func TestArpNoRoom(t *testing.T) {
	x := made(t, with(plain(), func(c *api.Config) { c.Neigh.Max = 1 }))
	x.hears(0, framed(port0, hostA, udp(a, b, 9, 1)))
	x.tells(1, arp(all, port1, 1, port1, own1, noMac, b))
	x.hears(0, arp(all, hostA, 1, hostA, a, noMac, own0))
	x.tells(0, arp(hostA, port0, 2, port0, own0, hostA, a))
	x.knows(neighbour(1, b, noMac, api.NAsked))
	x.dropped()
}

// 19.11: sources and destinations that may not be.
func TestMartians(t *testing.T) {
	c := natted()
	for _, r := range []struct{ src, dst string }{
		{own0, b}, {own1, b}, {own2, b}, {own0, own0}, {own1, own0}, {outside, b}, {outside, own0}, {own0, "224.0.0.1"},
		{own06, b6}, {own16, "ff02::1"}, {own26, own06},
		{"0.0.0.0", own0}, {"0.0.0.0", "255.255.255.255"}, {"127.0.0.1", own0}, {"224.0.0.1", own0}, {"255.255.255.255", own0}, {"0.1.0.0", own0}, {"240.0.0.1", own0},
		{"::1", own06}, {"ff02::1", own06}, {"::ffff:10.0.0.2", own06}, {"::2", own06},
		{a, "0.0.0.0"}, {a, "127.0.0.1"}, {a, "0.0.0.1"}, {a, "240.0.0.1"}, {a6, "::"}, {a6, "::1"}, {a6, "::ffff:10.0.1.9"},
		{a, outside},
		{"169.254.0.1", b}, {a, "169.254.0.1"}, {"fe80::1", b6}, {a6, "fe80::1"}, {"::", b6}, {"fe80::1", "fe80::2"},
	} {
		refusesFrame(t, c, 0, framed(port0, hostA, udp(r.src, r.dst, 9, 1)), api.ErrMartian)
	}
	for _, r := range []struct{ src, dst string }{{a, b}, {a, own0}, {a, own1}, {a6, b6}, {a6, own06}, {a, "169.254.0.1"}, {a6, "fe80::1"}} {
		for _, group := range []api.Mac{all, {1}, {0x33, 0x33, 0, 0, 0, 1}} {
			refusesFrame(t, c, 0, framed(group, hostA, udp(r.src, r.dst, 9, 1)), api.ErrMartian)
		}
	}
}

// 19.11: what is for the box, by whichever port it comes: own addresses, groups, all.
func TestForTheBox(t *testing.T) {
	for _, r := range []struct{ src, dst string }{
		{a, own0}, {a, own1}, {a, own2}, {a, "224.0.0.1"}, {a, "239.255.255.255"}, {a, "255.255.255.255"}, {"169.254.0.1", own0}, {"169.254.0.1", "224.0.0.5"},
		{a6, own06}, {a6, own16}, {a6, own26}, {a6, "ff02::1"}, {a6, "ff0e::1"}, {"fe80::1", own06}, {"::", own06}, {"::", "ff02::2"},
	} {
		refusesFrame(t, natted(), 0, framed(port0, hostA, udp(r.src, r.dst, 1, 1)), api.ErrLocal)
	}
	for _, r := range []struct{ src, dst string }{{a, "224.0.0.1"}, {a, "255.255.255.255"}, {a6, "ff02::1"}} {
		refusesFrame(t, plain(), 0, framed(all, hostA, udp(r.src, r.dst, 1, 1)), api.ErrLocal)
		refusesFrame(t, plain(), 0, framed(port0, hostA, udp(r.src, r.dst, 1, 1)), api.ErrLocal)
	}
}

// 19.11: the outside address is a destination for the port outside of which it is; without flows it is one as any other.
func TestOutsideAddress(t *testing.T) {
	refusesFrame(t, natted(), 2, framed(port2, gateway, udp(far, outside, 9, 1)), api.ErrNoFlow)
	refusesFrame(t, natted(), 2, framed(port2, gateway, echo(far, outside, 9, 8, 5, 1)), api.ErrNoFlow)
	x := met(t, plain())
	x.meets(2, port2, hostA, outside, own2)
	x.hears(0, framed(port0, hostA, udp(a, outside, 9, 1)))
	x.tells(2, framed(hostA, port2, hop(udp(a, outside, 9, 1))))
	x.hears(2, framed(port2, hostA, udp(outside, a, 9, 1)))
	x.tells(0, framed(hostA, port0, hop(udp(outside, a, 9, 1))))
	local := with(natted(), func(c *api.Config) { c.Flow.Outside = ip("169.254.0.1") })
	refusesFrame(t, local, 2, framed(port2, gateway, udp(far, "169.254.0.1", 9, 1)), api.ErrMartian)
}
