package box

import (
	"weir/addr"
	"weir/api"
	"weir/icmp"
)

// The kinds of ARP messages, and of ICMPv6 messages by which neighbours are found.
const (
	arpAsk    = 1
	arpAnswer = 2
	solicit   = 135
	advertise = 136
)

const firstHop = 255 // what has this hop limit has come over no hop

// hearArp learns from an ARP message, and answers it.
func (t *trip) hearArp() api.Errno {
	a, x, p := t.packet.Arp, t.box, t.in
	if !p.has(4) || !addr.Contains(linkNet(p.Net4), a.SIP) || x.isOwn(a.SIP) {
		return api.ErrStranger
	}
	x.tally.used++
	ours := a.TIP == p.Net4.IP || p.number == x.nat && x.isOutside(a.TIP)
	switch {
	case !ours:
		x.learn(p, a.SIP, a.SMac, api.LSeen)
	case a.Op == arpAnswer:
		x.learn(p, a.SIP, a.SMac, api.LAnswer)
	default:
		x.learn(p, a.SIP, a.SMac, api.LAsk)
		answer := api.Arp{Op: arpAnswer, SMac: p.Mac, SIP: a.TIP, TMac: a.SMac, TIP: a.SIP}
		x.sendAtOnce(p, t.frame.Src, api.Packet{Kind: api.PArp, Arp: answer})
	}
	return over
}

// isDiscovery tells whether a packet for the box is about neighbours. (A fragment is not, for its upper layer is not read.)
func (t *trip) isDiscovery() bool {
	p := t.packet
	return t.local && p.Kind == api.PIp6 && p.L4 == api.LIcmp && (p.Icmp.Type == solicit || p.Icmp.Type == advertise)
}

// hearDiscovery learns from neighbour discovery, and answers it.
func (t *trip) hearDiscovery() api.Errno {
	if t.packet.Ip6.Hop != firstHop {
		return api.ErrNdHop
	}
	n, e := icmp.ParseND(t.packet.Icmp)
	if e != api.OK {
		return e
	}
	if !t.in.has(6) {
		return api.ErrLocal
	}
	t.box.tally.used++
	if n.Kind == api.NDSolicit {
		t.hearSolicitation(n)
	} else {
		t.hearAdvertisement(n)
	}
	return over
}

func (t *trip) hearSolicitation(n api.ND) {
	p, src := t.in, t.packet.Ip6.Src
	if n.Target != p.Net6.IP || addr.Class(src) == api.CZero {
		return
	}
	if n.HasMac {
		t.box.learn(p, src, n.Mac, api.LAsk)
	}
	answer := api.ND{Kind: api.NDAdvertise, Target: n.Target, Router: true, Solicited: true, Override: true, HasMac: true, Mac: p.Mac}
	t.box.sendDiscovery(p, t.frame.Src, src, answer)
}

func (t *trip) hearAdvertisement(n api.ND) {
	if !n.HasMac {
		return
	}
	how := api.LSeen
	if n.Solicited {
		how = api.LAnswer
	}
	t.box.learn(t.in, n.Target, n.Mac, how)
}

// learn takes in what a neighbour's link address is; what has waited for that goes on.
func (x *Box) learn(p *port, ip api.IP, mac api.Mac, how int) {
	items, _ := x.neighs.Learn(p.number, ip, mac, how) // where there is no room for it, it is not learnt
	for _, n := range items {
		w := x.waiting[n]
		delete(x.waiting, n)
		x.enqueue(p, mac, n, w)
	}
}

// ask asks for a neighbour: itself, if its link address was known, else all.
func (x *Box) ask(p *port, ip api.IP, mac api.Mac) {
	if ip.V == 4 {
		x.askFour(p, ip, mac)
	} else {
		x.askSix(p, ip, mac)
	}
}

func (x *Box) askFour(p *port, ip api.IP, mac api.Mac) {
	if mac == (api.Mac{}) {
		mac = api.Mac{0xff, 0xff, 0xff, 0xff, 0xff, 0xff}
	}
	x.sendAtOnce(p, mac, api.Packet{Kind: api.PArp, Arp: api.Arp{Op: arpAsk, SMac: p.Mac, SIP: p.Net4.IP, TIP: ip}})
}

func (x *Box) askSix(p *port, ip api.IP, mac api.Mac) {
	dst := ip
	if mac == (api.Mac{}) { // who is asked for is one of those who hear this group
		dst, _ = addr.Solicited(ip)
		mac, _ = addr.GroupMac(dst)
	}
	x.sendDiscovery(p, mac, dst, api.ND{Kind: api.NDSolicit, Target: ip, HasMac: true, Mac: p.Mac})
}

// sendDiscovery sends neighbour discovery from the port's own address.
func (x *Box) sendDiscovery(p *port, mac api.Mac, dst api.IP, n api.ND) {
	m, _ := icmp.PutND(n) // it may be: a next hop, or an own address, is no group's
	q := message(p.Net6.IP, dst, m)
	q.Ip6.Hop = firstHop
	x.sendAtOnce(p, mac, q)
}

// sendAtOnce sends a packet that was made, past the queue.
func (x *Box) sendAtOnce(p *port, mac api.Mac, q api.Packet) {
	x.tally.made++
	frame, e := p.frame(mac, q)
	if e == api.OK {
		e = p.load(frame)
	}
	x.tally.refuse(e)
}

// askAgain asks for the neighbours that have not answered; what has waited for one too long is dropped.
func (x *Box) askAgain() {
	asks, lost := x.neighs.Tick()
	for _, a := range asks {
		x.ask(x.ports[a.Port], a.IP, a.Mac)
	}
	for _, n := range lost {
		w := x.waiting[n]
		delete(x.waiting, n)
		x.tally.drop(api.ErrNoAnswer, 1)
		if w.about != nil {
			x.complain(api.Trouble{Kind: api.TNoHost}, *w.about)
		}
	}
}
