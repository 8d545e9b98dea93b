package packet_test

import (
	"encoding/hex"
	"math/rand"
	"net/netip"
	"reflect"
	"slices"
	"strings"

	"weir/api"
)

var (
	all   = api.Mac{255, 255, 255, 255, 255, 255}
	me    = api.Mac{2, 5: 1}
	ten   = ip("10.0.0.1")
	two   = ip("10.0.0.2")
	left  = ip("2001:db8::1")
	right = ip("2001:db8::2")
)

func ip(s string) api.IP {
	a := netip.MustParseAddr(s)
	if a.Is4() {
		b := a.As4()
		return api.IP{V: 4, A: [16]byte{b[0], b[1], b[2], b[3]}}
	}
	return api.IP{V: 6, A: a.As16()}
}

func hx(s string) []byte {
	b, err := hex.DecodeString(strings.ReplaceAll(s, " ", ""))
	if err != nil {
		panic(err)
	}
	return b
}

// to is a frame from me to all with these bytes behind the addresses.
func to(parts ...[]byte) []byte {
	return slices.Concat(all[:], me[:], slices.Concat(parts...))
}

// arp, four and six are packets without a fault, changed by f.
func arp(f func(*api.Packet)) api.Packet {
	p := api.Packet{Dst: all, Src: me, Kind: api.PArp, Arp: api.Arp{Op: 1, SMac: me, SIP: ten, TIP: two}}
	f(&p)
	return p
}

func four(proto, layer int, f func(*api.Packet)) api.Packet {
	p := api.Packet{Dst: all, Src: me, Kind: api.PIp4, L4: layer, Ip4: api.Ip4{TTL: 64, Proto: proto, Src: ten, Dst: two}}
	if layer == api.LIcmp {
		p.Icmp.V = 4
	}
	f(&p)
	return p
}

func six(next, layer int, f func(*api.Packet)) api.Packet {
	p := api.Packet{Dst: all, Src: me, Kind: api.PIp6, L4: layer, Ip6: api.Ip6{Hop: 64, Next: next, Src: left, Dst: right}}
	if layer == api.LIcmp {
		p.Icmp.V = 6
	}
	f(&p)
	return p
}

func asIs(*api.Packet) {}

// basics is a packet of each shape: what it carries, and what that carries.
func basics() []api.Packet {
	return []api.Packet{
		arp(asIs), four(50, api.LNone, asIs), four(1, api.LIcmp, asIs), four(17, api.LUdp, asIs), four(6, api.LTcp, asIs),
		six(59, api.LNone, asIs), six(58, api.LIcmp, asIs), six(17, api.LUdp, asIs), six(6, api.LTcp, asIs),
	}
}

func opt(kind int, data ...byte) api.Opt { return api.Opt{Kind: kind, Data: data} }

// bare is a value of any kind, its empty lists nil: two are the same if these are deeply equal.
func bare[T any](v T) T {
	out := copyOf(reflect.ValueOf(v), 0)
	return out.Interface().(T)
}

func same(a, b api.Packet) bool { return reflect.DeepEqual(bare(a), bare(b)) }

func nothing(p api.Packet) bool { return reflect.DeepEqual(p, api.Packet{}) }

// copyOf is a copy that shares no memory; each list has so many elements behind it as spare room, all of them 0xee.
func copyOf(v reflect.Value, spare int) reflect.Value {
	out := reflect.New(v.Type()).Elem()
	out.Set(v)
	switch v.Kind() {
	case reflect.Struct:
		for i := range v.NumField() {
			out.Field(i).Set(copyOf(v.Field(i), spare))
		}
	case reflect.Slice:
		if v.Len()+spare == 0 {
			return reflect.Zero(v.Type())
		}
		if b, ok := v.Interface().([]byte); ok { // as below, but at once
			return reflect.ValueOf(append(slices.Clip(slices.Clone(b)), slices.Repeat([]byte{0xee}, spare)...)[:len(b)])
		}
		room := reflect.MakeSlice(v.Type(), v.Len()+spare, v.Len()+spare)
		for i := range v.Len() {
			room.Index(i).Set(copyOf(v.Index(i), spare))
		}
		for i := range spare {
			scrawl(room.Index(v.Len() + i))
		}
		out.Set(room.Slice(0, v.Len()))
	}
	return out
}

// scrawl writes over a value all that stands in it, and over the elements of its lists.
func scrawl(v reflect.Value) {
	switch v.Kind() {
	case reflect.Struct:
		for i := range v.NumField() {
			scrawl(v.Field(i))
		}
	case reflect.Array, reflect.Slice:
		for i := range v.Len() {
			scrawl(v.Index(i))
		}
	case reflect.Int:
		v.SetInt(v.Int() ^ 0xee)
	case reflect.Uint8:
		v.SetUint(v.Uint() ^ 0xee)
	case reflect.Bool:
		v.SetBool(!v.Bool())
	}
}

// roomy is p in memory of its own, with spare room behind each list; kept tells whether p and that room are as they were.
func roomy(p api.Packet) (q api.Packet, kept func() bool) {
	q = copyOf(reflect.ValueOf(p), 3).Interface().(api.Packet)
	before := wholeOf(reflect.ValueOf(q))
	return q, func() bool { return reflect.DeepEqual(wholeOf(reflect.ValueOf(q)), before) }
}

// wholeOf is all that stands in a value, one behind the other, the spare room of its lists with it.
func wholeOf(v reflect.Value) []any {
	var l []any
	switch v.Kind() {
	case reflect.Struct:
		for i := range v.NumField() {
			l = append(l, wholeOf(v.Field(i))...)
		}
	case reflect.Slice:
		l = append(l, v.Len(), v.Cap())
		if b, ok := v.Interface().([]byte); ok { // as below, but at once
			return append(l, string(b[:cap(b)]))
		}
		for i := range v.Cap() {
			l = append(l, wholeOf(v.Slice(0, v.Cap()).Index(i))...)
		}
	default:
		l = append(l, v.Interface())
	}
	return l
}

// roomyBytes is b with spare room behind it, and that room with it.
func roomyBytes(b []byte) (part, whole []byte) {
	whole = slices.Concat(b, []byte("the room behind it, which is nobody's but the caller's own: not read and not written into"))
	return whole[:len(b)], whole
}

// byteLists are all lists of bytes that stand in p and are not empty.
func byteLists(p *api.Packet) [][]byte {
	var l [][]byte
	add := func(b []byte) {
		if len(b) > 0 {
			l = append(l, b)
		}
	}
	addOpts := func(opts []api.Opt) {
		for _, o := range opts {
			add(o.Data)
		}
	}
	addOpts(p.Ip4.Opts)
	add(p.Ip4.Data)
	for _, x := range p.Ip6.Exts {
		addOpts(x.Opts)
		add(x.Data)
	}
	for _, b := range [][]byte{p.Ip6.Data, p.Icmp.Data, p.Udp.Data} {
		add(b)
	}
	addOpts(p.Tcp.Opts)
	add(p.Tcp.Data)
	return l
}

// sharesList tells whether two lists that are not empty are one in memory.
func sharesList[T any](a, b []T) bool {
	return len(a) == len(b) && cap(a) == cap(b) && (cap(a) == 0 || &a[:cap(a)][0] == &b[:cap(b)][0])
}

func some(r *rand.Rand, n int) []byte {
	b := make([]byte, n)
	r.Read(b)
	return b
}

func someMac(r *rand.Rand) api.Mac {
	m := api.Mac(some(r, 6))
	m[0] = m[0]&^1 | 2
	return m
}

func some4(r *rand.Rand) api.IP {
	a := api.IP{V: 4}
	r.Read(a.A[:4])
	return a
}

func some6(r *rand.Rand) api.IP { return api.IP{V: 6, A: [16]byte(some(r, 16))} }

// somePacket is one that may be.
func somePacket(r *rand.Rand) api.Packet {
	p := api.Packet{Dst: api.Mac(some(r, 6)), Src: someMac(r)}
	for i := range r.Intn(3) {
		p.Tags = append(p.Tags, api.Tag{TPID: 0x8100, PCP: r.Intn(8), DEI: r.Intn(2) == 0, VID: r.Intn(4095)})
		if i == 0 && r.Intn(2) == 0 {
			p.Tags[0].TPID = 0x88a8
		}
	}
	switch r.Intn(9) {
	case 0:
		p.Kind = api.PArp
		p.Arp = api.Arp{Op: 1 + r.Intn(2), SMac: someMac(r), SIP: some4(r), TMac: api.Mac(some(r, 6)), TIP: some4(r)}
	case 1, 2, 3, 4:
		p.Kind, p.Ip4 = api.PIp4, someIp4(r)
		if !p.Ip4.MF && p.Ip4.Off == 0 {
			if lay(r, &p, 4, p.Ip4.Proto); p.L4 != api.LNone {
				p.Ip4.Data = nil
			}
		}
	default:
		p.Kind, p.Ip6 = api.PIp6, someIp6(r)
		if !p.Ip6.Frag.Has {
			if lay(r, &p, 6, p.Ip6.Next); p.L4 != api.LNone {
				p.Ip6.Data = nil
			}
		}
	}
	return p
}

// lay gives p the upper layer of that protocol.
func lay(r *rand.Rand, p *api.Packet, v, proto int) {
	switch {
	case proto == 6:
		p.L4 = api.LTcp
		p.Tcp = api.Tcp{
			Sport: r.Intn(65536), Dport: r.Intn(65536), Seq: int(r.Uint32()), Ack: int(r.Uint32()),
			Flags: r.Intn(256), Win: r.Intn(65536), Urg: r.Intn(65536), Opts: someOpts(r), Data: some(r, r.Intn(40)),
		}
	case proto == 17:
		p.L4 = api.LUdp
		p.Udp = api.Udp{Sport: r.Intn(65536), Dport: r.Intn(65536), NoSum: v == 4 && r.Intn(4) == 0, Data: some(r, r.Intn(40))}
	case proto == 1 && v == 4, proto == 58 && v == 6:
		p.L4 = api.LIcmp
		p.Icmp = api.Icmp{V: v, Type: r.Intn(256), Code: r.Intn(256), Rest: int(r.Uint32()), Data: some(r, r.Intn(40))}
		if r.Intn(2) == 0 {
			p.Icmp.Type, p.Icmp.Code = []int{0, 8, 128, 129}[r.Intn(4)], r.Intn(2)
		}
	}
}

// someOpts are options of IPv4 or TCP.
func someOpts(r *rand.Rand) []api.Opt {
	var l []api.Opt
	for room := r.Intn(2) * r.Intn(41); room >= 2; {
		l = append(l, opt(10+r.Intn(246), some(r, r.Intn(room-1))...))
		room -= 2 + len(l[len(l)-1].Data)
	}
	return l
}

func someProto(r *rand.Rand) int {
	return []int{1, 1, 6, 6, 17, 17, 58, 58, 50, 59, 1 + r.Intn(40), 61 + r.Intn(195)}[r.Intn(12)]
}

func someIp4(r *rand.Rand) api.Ip4 {
	h := api.Ip4{Tos: r.Intn(256), ID: r.Intn(65536), DF: r.Intn(2) == 0, TTL: r.Intn(256), Proto: someProto(r), Src: some4(r), Dst: some4(r), Opts: someOpts(r), Data: some(r, r.Intn(40))}
	switch r.Intn(6) {
	case 0:
		h.MF, h.Data = true, some(r, 8*(1+r.Intn(4)))
	case 1:
		h.Off = 8 * (1 + r.Intn(8100))
	case 2:
		h.MF, h.Off, h.Data = true, 8*(1+r.Intn(8100)), some(r, 8*(1+r.Intn(4)))
	}
	return h
}

func someIp6(r *rand.Rand) api.Ip6 {
	h := api.Ip6{Class: r.Intn(256), Flow: r.Intn(1 << 20), Hop: r.Intn(256), Next: someProto(r), Src: some6(r), Dst: some6(r), Data: some(r, r.Intn(40))}
	for i := range r.Intn(2) * r.Intn(9) {
		h.Exts = append(h.Exts, someExt(r, i == 0))
	}
	if r.Intn(4) == 0 {
		h.Frag = api.Frag{Has: true, ID: int(r.Uint32()), More: r.Intn(2) == 0, Off: r.Intn(2) * 8 * r.Intn(8180)}
		h.Next, h.Data = r.Intn(256), some(r, 8*(1+r.Intn(4)))
		if !h.Frag.More && r.Intn(2) == 0 {
			h.Data = some(r, 1+r.Intn(30))
		}
	}
	return h
}

func someExt(r *rand.Rand, first bool) api.Ext {
	room := 6 + 8*(r.Intn(2)*r.Intn(5))
	if r.Intn(40) == 0 {
		room = 6 + 8*r.Intn(100)
	}
	kinds := []int{43, 60, 0}
	x := api.Ext{Kind: kinds[r.Intn(2)]}
	if first {
		x.Kind = kinds[r.Intn(3)]
	}
	if x.Kind == 43 {
		x.Data = some(r, room)
		return x
	}
	for run := false; room > 0; {
		if n := 1 + r.Intn(room); !run && (n < 2 || r.Intn(2) == 0) || room == 1 {
			if run {
				x.Opts[len(x.Opts)-1].Data = append(x.Opts[len(x.Opts)-1].Data, make([]byte, n)...)
			} else {
				x.Opts = append(x.Opts, opt(0, make([]byte, n)...))
			}
			run, room = true, room-n
		} else if n = min(n, 257); n >= 2 {
			x.Opts = append(x.Opts, opt(2+r.Intn(254), some(r, n-2)...))
			run, room = false, room-n
		}
	}
	return x
}
