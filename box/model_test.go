package box_test

import (
	"bytes"
	"slices"

	"weir/addr"
	"weir/api"
	"weir/flow"
	"weir/icmp"
	"weir/l4"
	"weir/link"
	"weir/neigh"
	"weir/packet"
	"weir/queue"
	"weir/reasm"
	"weir/ring"
	"weir/route"
	"weir/rules"
	"weir/split"
)

// A second reading of the chapter: each promise is one function that is gone through from top to bottom, over the layers
// below as they are. Frames are copied as soon as they are polled, and no item is ever forgotten.

type thing struct {
	out   int // the port by which it goes
	class int
	gram  api.Packet  // the datagram, without a frame
	about *api.Packet // of a packet in transit: the datagram that a complaint is about
	frame []byte
}

type model struct {
	c      api.Config
	rings  []*ring.Port
	queues []*queue.Queue
	routes *route.Table
	rules  *rules.Set
	cache  *neigh.Cache
	reasm  *reasm.Table
	flows  *flow.Table
	things []thing // by their numbers
	last   int     // the port of the last frame
	n      api.Counts
	drops  map[api.Errno]int
}

// newModel is the model of a configuration that Check takes.
func newModel(c api.Config) *model {
	m := &model{c: c, routes: route.New(), last: len(c.Ports) - 1, drops: map[api.Errno]int{}}
	for i, p := range c.Ports {
		r, _ := ring.New(p.Rx, p.Tx, p.Pool, p.Size)
		q, _ := queue.New(c.Classes)
		m.rings, m.queues = append(m.rings, r), append(m.queues, q)
		for _, n := range []api.Prefix{p.Net4, p.Net6} {
			if n.IP.V != 0 {
				to, _ := addr.Mask(n.IP, n.Len)
				m.routes.Add(api.Route{Prefix: api.Prefix{IP: to, Len: n.Len}, Port: i})
			}
		}
	}
	for _, r := range c.Routes {
		m.routes.Add(r)
	}
	m.rules, _, _, _ = rules.Parse(c.Rules...)
	m.cache, _ = neigh.New(c.Neigh)
	m.reasm, _ = reasm.New(c.Contexts, c.Ticks)
	if c.Flow.Max != 0 {
		m.flows, _ = flow.New(c.Flow)
	}
	return m
}

func (m *model) drop(e api.Errno, n int) {
	if n > 0 {
		m.drops[e] += n
	}
}

func (m *model) Arrive(port int, b []byte) api.Errno {
	if port < 0 || port >= len(m.c.Ports) {
		return api.ErrArg
	}
	m.n.In++
	e := m.rings[port].Arrive(b)
	if e != api.OK {
		m.drop(e, 1)
	}
	return e
}

func (m *model) Refill(port, n int) int {
	if port < 0 || port >= len(m.c.Ports) {
		return 0
	}
	return m.rings[port].Refill(n)
}

func (m *model) Drain(port int) ([]byte, bool) {
	if port < 0 || port >= len(m.c.Ports) {
		return nil, false
	}
	b, ok := m.rings[port].Drain()
	if ok {
		m.n.Out++
	}
	return b, ok
}

func (m *model) Poll(n int) int {
	count := 0
	for ; count < n; count++ {
		port := -1
		for k := 1; k <= len(m.c.Ports) && port < 0; k++ {
			if at := (m.last + k) % len(m.c.Ports); m.rings[at].Stat().Filled > 0 {
				port = at
			}
		}
		if port < 0 {
			break
		}
		m.last = port
		i, b, _ := m.rings[port].Poll()
		if e := m.frame(port, bytes.Clone(b)); e != api.OK {
			m.drop(e, 1)
		}
		m.rings[port].Release(i)
	}
	m.sends()
	return count
}

func (m *model) Tick() {
	for _, l := range m.reasm.Tick() {
		m.drop(api.ErrLate, l.Frags)
		if l.First && l.V == 4 {
			m.complain(api.TFrags, 0, api.Packet{Kind: api.PIp4, Ip4: l.H4})
		}
		if l.First && l.V == 6 {
			m.complain(api.TFrags, 0, api.Packet{Kind: api.PIp6, Ip6: l.H6})
		}
	}
	if m.flows != nil {
		m.flows.Tick()
	}
	asks, lost := m.cache.Tick()
	for _, a := range asks {
		m.ask(a.Port, a.IP, a.Mac)
	}
	for _, i := range lost {
		m.drop(api.ErrNoAnswer, 1)
		if about := m.things[i].about; about != nil {
			m.complain(api.TNoHost, 0, *about)
		}
	}
	for _, q := range m.queues {
		q.Tick()
	}
	m.sends()
}

func (m *model) Counts() api.Counts {
	n := m.n
	for e := api.Errno(0); e < 256; e++ {
		if m.drops[e] > 0 {
			n.Drops = append(n.Drops, api.Drop{Reason: e, N: m.drops[e]})
		}
	}
	return n
}

func (m *model) Kept() api.Kept {
	k := api.Kept{Frags: m.reasm.Held(), Waiting: m.cache.Waiting()}
	for i, r := range m.rings {
		k.Rx += r.Stat().Filled
		k.Tx += r.Stat().Queued
		for class := range m.c.Classes {
			k.Queued += m.queues[i].Len(class)
		}
	}
	return k
}

func (m *model) Neighbours() []api.Neighbour { return m.cache.All() }

func (m *model) Flows() []api.Flow {
	if m.flows == nil {
		return nil
	}
	return m.flows.Dump()
}

// frame is 19.9: the reason for which a frame is dropped, or OK.
func (m *model) frame(in int, b []byte) api.Errno {
	port := m.c.Ports[in]
	f, e := link.Parse(b)
	if e != api.OK {
		return e
	}
	if port.Vid == 0 && len(f.Tags) > 0 {
		return api.ErrVlan
	}
	if port.Vid != 0 && (len(f.Tags) != 1 || f.Tags[0].TPID != 0x8100 || f.Tags[0].VID != port.Vid) {
		return api.ErrVlan
	}
	if f.Dst != port.Mac && f.Dst[0]%2 == 0 {
		return api.ErrNotMine
	}
	p, e := packet.Parse(b)
	if e != api.OK {
		return e
	}
	if p.Kind == api.PArp {
		return m.arp(in, p)
	}
	return m.addresses(in, p)
}

func (m *model) own(a api.IP) bool {
	return slices.ContainsFunc(m.c.Ports, func(p api.PortConfig) bool { return p.Net4.IP == a || p.Net6.IP == a })
}

// arp is 19.10.
func (m *model) arp(in int, p api.Packet) api.Errno {
	port, a := m.c.Ports[in], p.Arp
	masked, _ := addr.Mask(port.Net4.IP, port.Net4.Len)
	if port.Net4 == (api.Prefix{}) || !addr.Contains(api.Prefix{IP: masked, Len: port.Net4.Len}, a.SIP) || m.own(a.SIP) {
		return api.ErrStranger
	}
	m.n.Used++
	if a.TIP != port.Net4.IP && !(in == m.c.Nat && a.TIP == m.c.Flow.Outside) {
		m.learn(in, a.SIP, a.SMac, api.LSeen)
		return api.OK
	}
	if a.Op == 2 {
		m.learn(in, a.SIP, a.SMac, api.LAnswer)
		return api.OK
	}
	m.learn(in, a.SIP, a.SMac, api.LAsk)
	m.atOnce(in, p.Src, api.Packet{Kind: api.PArp, Arp: api.Arp{Op: 2, SMac: port.Mac, SIP: a.TIP, TMac: a.SMac, TIP: a.SIP}})
	return api.OK
}

func (m *model) learn(in int, a api.IP, mac api.Mac, how int) {
	items, _ := m.cache.Learn(in, a, mac, how)
	for _, i := range items {
		m.goesOn(i, mac)
	}
}

// addresses is 19.11.
func (m *model) addresses(in int, p api.Packet) api.Errno {
	src, dst, v6 := p.Ip4.Src, p.Ip4.Dst, p.Kind == api.PIp6
	if v6 {
		src, dst = p.Ip6.Src, p.Ip6.Dst
	}
	from, to := addr.Class(src), addr.Class(dst)
	tracked := m.c.Flow.Max != 0
	if m.own(src) || tracked && src == m.c.Flow.Outside {
		return api.ErrMartian
	}
	if !(from == api.CUni || from == api.CLocal || v6 && from == api.CZero) {
		return api.ErrMartian
	}
	if !(to == api.CUni || to == api.CLocal || to == api.CMulti || !v6 && to == api.CBroad) {
		return api.ErrMartian
	}
	if p.Dst[0]%2 == 1 && (to == api.CUni || to == api.CLocal) {
		return api.ErrMartian
	}
	if tracked && dst == m.c.Flow.Outside && in != m.c.Nat {
		return api.ErrMartian
	}
	if m.own(dst) || to == api.CMulti || to == api.CBroad {
		return m.forBox(in, p, src, dst)
	}
	if from != api.CUni || to != api.CUni {
		return api.ErrMartian
	}
	return m.transit(in, p)
}

func piece(p api.Packet) bool { return p.Ip4.MF || p.Ip4.Off > 0 || p.Ip6.Frag.Has }

// forBox is 19.12.
func (m *model) forBox(in int, p api.Packet, src, dst api.IP) api.Errno {
	if p.Kind == api.PIp6 && p.L4 == api.LIcmp && (p.Icmp.Type == 135 || p.Icmp.Type == 136) {
		return m.neighbour(in, p)
	}
	cut, id := false, 0
	if piece(p) {
		if !m.own(dst) {
			return api.ErrLocal
		}
		var e api.Errno
		var whole bool
		if p, id, whole, e = m.offer(p); e != api.OK || !whole {
			return e
		}
		if p, e = packet.Open(p); e != api.OK {
			return e
		}
		cut = true
	}
	four := p.Kind == api.PIp4 && p.Icmp.Type == 8
	six := p.Kind == api.PIp6 && p.Icmp.Type == 128
	if p.L4 != api.LIcmp || !four && !six || p.Icmp.Code != 0 || !m.own(dst) || addr.Class(src) != api.CUni {
		return api.ErrLocal
	}
	m.n.Used++
	answer := api.Icmp{V: 4, Type: 0, Rest: p.Icmp.Rest, Data: p.Icmp.Data}
	if six {
		answer.V, answer.Type = 6, 129
	}
	m.ownGram(dst, src, answer, cut, id)
	return api.OK
}

// neighbour is 19.12, 1.
func (m *model) neighbour(in int, p api.Packet) api.Errno {
	port, src := m.c.Ports[in], p.Ip6.Src
	if p.Ip6.Hop != 255 {
		return api.ErrNdHop
	}
	n, e := icmp.ParseND(p.Icmp)
	if e != api.OK {
		return e
	}
	if port.Net6.IP.V == 0 {
		return api.ErrLocal
	}
	m.n.Used++
	if n.Kind == api.NDSolicit && n.Target == port.Net6.IP {
		if n.HasMac && addr.Class(src) != api.CZero {
			m.learn(in, src, n.Mac, api.LAsk)
		}
		if addr.Class(src) != api.CZero {
			m.discover(in, p.Src, src, api.ND{Kind: api.NDAdvertise, Target: port.Net6.IP, Router: true, Solicited: true, Override: true, HasMac: true, Mac: port.Mac})
		}
	}
	if n.Kind == api.NDAdvertise && n.HasMac {
		how := api.LSeen
		if n.Solicited {
			how = api.LAnswer
		}
		m.learn(in, n.Target, n.Mac, how)
	}
	return api.OK
}

// offer is 19.13, 1: the packet that became whole, the id, whether one did.
func (m *model) offer(p api.Packet) (api.Packet, int, bool, api.Errno) {
	held := m.reasm.Held()
	q := api.Packet{Dst: p.Dst, Src: p.Src, Tags: p.Tags, Kind: p.Kind}
	var outcome, id int
	var e api.Errno
	if p.Kind == api.PIp4 {
		q.Ip4, outcome, e = m.reasm.Offer4(p.Ip4)
	} else {
		q.Ip6, id, outcome, e = m.reasm.Offer6(p.Ip6)
	}
	if e != api.OK {
		m.drop(e, held-m.reasm.Held())
		return q, 0, false, e
	}
	if outcome == api.OHeld {
		return q, 0, false, api.OK
	}
	m.n.Used += 1 + held - m.reasm.Held()
	m.n.Made++
	return q, id, true, api.OK
}

// transit is 19.13.
func (m *model) transit(in int, p api.Packet) api.Errno {
	cut, id := piece(p), 0
	var e api.Errno
	if cut { // 1
		var whole bool
		if p, id, whole, e = m.offer(p); e != api.OK || !whole {
			return e
		}
	}
	if p, e = packet.Open(p); e != api.OK { // 2
		return e
	}
	tell := func(kind, extra int) {}
	about := new(api.Packet)
	if *about, e = packet.Close(p); e == api.OK {
		tell = func(kind, extra int) { m.complain(kind, extra, *about) }
	} else {
		about = nil
	}
	v := m.rules.Judge(in, p) // 3
	if v.Act == api.AReject {
		tell(api.TAdmin, 0)
	}
	if v.Act != api.APermit {
		return api.ErrDenied
	}
	if p.Kind == api.PIp4 && p.Ip4.TTL <= 1 { // 4
		tell(api.THops, 0)
		return api.ErrIp4TTL
	}
	if p.Kind == api.PIp6 && p.Ip6.Hop <= 1 {
		tell(api.THops, 0)
		return api.ErrHop6
	}
	if in == m.c.Nat { // 5
		if p, e = m.translate(p, m.flows.In); e != api.OK {
			return e
		}
	}
	r, ok := m.routes.Find(target(p)) // 6
	if !ok {
		tell(api.TNoRoute, 0)
		return api.ErrNoRoute
	}
	if r.Port == m.c.Nat { // 7
		if in == m.c.Nat {
			return api.ErrNoRoute
		}
		if p, e = m.translate(p, m.flows.Out); e != api.OK {
			return e
		}
	}
	mtu := m.c.Ports[r.Port].MTU
	if p.L4 == api.LTcp && p.Tcp.Flags&api.TcpSyn != 0 { // 8
		p.Tcp = l4.Clamp(p.Tcp, mtu-map[int]int{api.PIp4: 40, api.PIp6: 60}[p.Kind])
	}
	if p.Kind == api.PIp4 { // 9
		p.Ip4.TTL--
	} else {
		p.Ip6.Hop--
	}
	l, e := m.toMTU(p, mtu, cut, id, tell) // 10
	if e != api.OK {
		return e
	}
	for _, q := range l { // 11
		m.next(thing{out: r.Port, class: v.Class, gram: q, about: about}, r)
	}
	return api.OK
}

func target(p api.Packet) api.IP {
	if p.Kind == api.PIp4 {
		return p.Ip4.Dst
	}
	return p.Ip6.Dst
}

func (m *model) translate(p api.Packet, by func(api.Tuple, int) (api.Tuple, api.Errno)) (api.Packet, api.Errno) {
	x, ok := packet.Tuple(p)
	if !ok {
		return p, api.ErrProto
	}
	flags := 0
	if p.L4 == api.LTcp {
		flags = p.Tcp.Flags
	}
	x, e := by(x, flags)
	if e != api.OK {
		return p, e
	}
	return flow.Rewrite(p, x)
}

// toMTU is 19.13, 10.
func (m *model) toMTU(p api.Packet, mtu int, cut bool, id int, tell func(kind, extra int)) ([]api.Packet, api.Errno) {
	p, e := packet.Close(p)
	if e != api.OK {
		return nil, e
	}
	if p.Kind == api.PIp4 && split.Fits4(p.Ip4, mtu) || p.Kind == api.PIp6 && split.Fits6(p.Ip6, mtu) {
		return []api.Packet{p}, api.OK
	}
	var l []api.Packet
	if p.Kind == api.PIp4 {
		if p.Ip4.DF {
			tell(api.TTooBig, mtu)
			return nil, api.ErrDF
		}
		parts, e := split.Split4(p.Ip4, mtu)
		if e != api.OK {
			return nil, e
		}
		for _, h := range parts {
			l = append(l, api.Packet{Kind: api.PIp4, Ip4: h})
		}
	} else {
		if !cut {
			tell(api.TTooBig, mtu)
			return nil, api.ErrTooBig
		}
		parts, e := split.Split6(p.Ip6, mtu, id)
		if e != api.OK {
			return nil, e
		}
		for _, h := range parts {
			l = append(l, api.Packet{Kind: api.PIp6, Ip6: h})
		}
	}
	m.n.Used++
	m.n.Made += len(l)
	return l, api.OK
}

// complain is the second part of 19.14.
func (m *model) complain(kind, extra int, about api.Packet) {
	var msg api.Icmp
	var ok bool
	src := about.Ip4.Src
	if about.Kind == api.PIp4 {
		msg, ok = icmp.Complain4(api.Trouble{Kind: kind, Extra: extra}, about.Ip4)
	} else {
		src = about.Ip6.Src
		msg, ok = icmp.Complain6(api.Trouble{Kind: kind, Extra: extra}, about.Ip6)
	}
	r, found := m.routes.Find(src)
	if !ok || !found {
		return
	}
	from := m.c.Ports[r.Port].Net4.IP
	if src.V == 6 {
		from = m.c.Ports[r.Port].Net6.IP
	}
	m.ownGram(from, src, msg, false, 0)
}

// ownGram is the first part of 19.14.
func (m *model) ownGram(from, to api.IP, msg api.Icmp, cut bool, id int) {
	m.n.Made++
	r, ok := m.routes.Find(to)
	if !ok {
		m.drop(api.ErrNoRoute, 1)
		return
	}
	p := api.Packet{Kind: api.PIp4, L4: api.LIcmp, Icmp: msg}
	if from.V == 4 {
		p.Ip4 = api.Ip4{TTL: 64, Proto: 1, Src: from, Dst: to}
	} else {
		p.Kind = api.PIp6
		p.Ip6 = api.Ip6{Hop: 64, Next: 58, Src: from, Dst: to}
	}
	l, e := m.toMTU(p, m.c.Ports[r.Port].MTU, cut, id, func(int, int) {})
	if e != api.OK {
		m.drop(e, 1)
		return
	}
	for _, q := range l {
		m.next(thing{out: r.Port, gram: q}, r)
	}
}

// next is 19.15.
func (m *model) next(x thing, r api.Route) {
	hop := r.Via
	if hop.V == 0 {
		hop = target(x.gram)
	}
	i := len(m.things)
	m.things = append(m.things, x)
	mac, outcome, e := m.cache.Want(x.out, hop, i)
	if outcome == api.NRefused {
		m.drop(e, 1)
	}
	if outcome == api.NAsk {
		m.ask(x.out, hop, api.Mac{})
	}
	if outcome == api.NKnown || outcome == api.NKnownAsk {
		m.goesOn(i, mac)
	}
	if outcome == api.NKnownAsk {
		m.ask(x.out, hop, mac)
	}
}

// goesOn is 19.15, 3.
func (m *model) goesOn(i int, mac api.Mac) {
	x := &m.things[i]
	var e api.Errno
	if x.frame, e = m.canonical(x.out, mac, x.gram); e == api.OK {
		e = m.queues[x.out].Push(x.class, len(x.frame), i)
	}
	if e != api.OK {
		m.drop(e, 1)
	}
}

func (m *model) canonical(out int, mac api.Mac, p api.Packet) ([]byte, api.Errno) {
	p, e := packet.Open(p)
	if e != api.OK {
		return nil, e
	}
	p.Dst, p.Src, p.Tags = mac, m.c.Ports[out].Mac, nil
	if vid := m.c.Ports[out].Vid; vid != 0 {
		p.Tags = []api.Tag{{TPID: 0x8100, VID: vid}}
	}
	return packet.Serialise(p)
}

// ask is the first part of 19.16.
func (m *model) ask(out int, a api.IP, mac api.Mac) {
	port := m.c.Ports[out]
	none := mac == api.Mac{}
	if a.V == 4 {
		if none {
			mac = all
		}
		m.atOnce(out, mac, api.Packet{Kind: api.PArp, Arp: api.Arp{Op: 1, SMac: port.Mac, SIP: port.Net4.IP, TIP: a}})
		return
	}
	to := a
	if none {
		to, _ = addr.Solicited(a)
		mac, _ = addr.GroupMac(to)
	}
	m.discover(out, mac, to, api.ND{Kind: api.NDSolicit, Target: a, HasMac: true, Mac: port.Mac})
}

func (m *model) discover(out int, mac api.Mac, to api.IP, n api.ND) {
	msg, _ := icmp.PutND(n)
	m.atOnce(out, mac, api.Packet{Kind: api.PIp6, Ip6: api.Ip6{Hop: 255, Next: 58, Src: m.c.Ports[out].Net6.IP, Dst: to}, L4: api.LIcmp, Icmp: msg})
}

// atOnce is the second part of 19.16.
func (m *model) atOnce(out int, mac api.Mac, p api.Packet) {
	m.n.Made++
	b, e := m.canonical(out, mac, p)
	if e != api.OK {
		panic(e)
	}
	r := m.rings[out]
	i, w, e := r.Take()
	if e != api.OK {
		m.drop(e, 1)
		return
	}
	if len(b) > m.c.Ports[out].Size {
		m.drop(api.ErrBig, 1)
		r.Release(i)
		return
	}
	copy(w, b)
	if e := r.Send(i, len(b)); e != api.OK {
		m.drop(e, 1)
		r.Release(i)
	}
}

// sends is 19.17, of each port.
func (m *model) sends() {
	for out, q := range m.queues {
		r, port := m.rings[out], m.c.Ports[out]
		for r.Stat().Queued < port.Tx {
			i, _, ok := q.Pop()
			if !ok {
				break
			}
			b := m.things[i].frame
			if len(b) > port.Size {
				m.drop(api.ErrBig, 1)
				continue
			}
			n, w, e := r.Take()
			if e != api.OK {
				m.drop(e, 1)
				continue
			}
			copy(w, b)
			r.Send(n, len(b))
		}
	}
}
