package packet_test

import (
	"bytes"
	"math/rand"
	"reflect"
	"slices"
	"testing"

	"weir/api"
	"weir/icmp"
	"weir/ip4"
	"weir/ip6"
	"weir/l4"
	"weir/link"
	"weir/packet"
)

// told holds what Check, Serialise and Close say of a packet.
func told(t *testing.T, name any, p api.Packet, want api.Errno) {
	t.Helper()
	e := packet.Check(p)
	b, f := packet.Serialise(p)
	c, g := packet.Close(p)
	if e != want || f != want || g != want {
		t.Errorf("%v: Check = %d, Serialise %d, Close %d, want %d", name, e, f, g, want)
	}
	if e != api.OK && (b != nil || !nothing(c)) || e == api.OK && len(b) < 60 {
		t.Errorf("%v: beside %d stand %d bytes and %+v", name, e, len(b), c)
	}
}

// 10.3
func TestCheck(t *testing.T) {
	rows := []struct {
		p    api.Packet
		want api.Errno
	}{
		{api.Packet{}, api.ErrMixed}, {api.Packet{Src: all, Kind: 9}, api.ErrSource}, {api.Packet{Src: me, Kind: api.PArp, Arp: api.Arp{Op: 3}}, api.ErrArpOp}, {api.Packet{Src: me, Kind: api.PIp4, Ip4: api.Ip4{Proto: 17, Data: []byte{1}}}, api.ErrMixed}, {api.Packet{Src: me, Kind: api.PIp4, L4: api.LUdp, Ip4: api.Ip4{Proto: 17, TTL: 256}, Udp: api.Udp{Sport: -1}}, api.ErrIp4Field},
		{api.Packet{Src: me, Tags: make([]api.Tag, 1), Kind: 9}, api.ErrTags}, {api.Packet{Src: me, Tags: make([]api.Tag, 3), Kind: 9}, api.ErrTags}, {api.Packet{Src: me, Tags: []api.Tag{{TPID: 0x8100, VID: 4095}}, Kind: 9}, api.ErrTag}, {api.Packet{Src: me, Tags: []api.Tag{{TPID: 0x8100, PCP: 8}}}, api.ErrTag},
		{arp(func(p *api.Packet) { p.Arp.SMac = all }), api.ErrArpMac}, {arp(func(p *api.Packet) { p.Arp.TIP = left }), api.ErrFamily}, {arp(func(p *api.Packet) { p.Dst = me }), api.OK},
		{four(50, 0, func(p *api.Packet) { p.Ip4.Src = left }), api.ErrIp4Field}, {four(50, 0, func(p *api.Packet) { p.Ip4.Opts = []api.Opt{opt(1)} }), api.ErrIp4Option}, {four(17, 0, func(p *api.Packet) { p.Ip4.MF = true }), api.ErrIp4Frag}, {four(17, 0, func(p *api.Packet) { p.Ip4.MF, p.Ip4.Data = true, make([]byte, 7) }), api.ErrIp4Frag}, {four(17, 0, func(p *api.Packet) { p.Ip4.Off = 65528 }), api.ErrIp4Frag}, {four(17, 2, func(p *api.Packet) { p.Ip4.Off = -8 }), api.ErrIp4Field}, {four(17, 0, func(p *api.Packet) { p.Ip4.Off = -8 }), api.ErrMixed}, {four(17, 0, func(p *api.Packet) { p.Ip4.Off = 7 }), api.ErrIp4Field},
		{six(59, 0, func(p *api.Packet) { p.Ip6.Hop = 256 }), api.ErrField6}, {six(44, 0, asIs), api.ErrChain}, {six(-1, 0, asIs), api.ErrField6}, {six(17, 2, func(p *api.Packet) { p.Ip6.Frag.More = true }), api.ErrFrag6}, {six(17, 0, func(p *api.Packet) { p.Ip6.Frag.More = true }), api.ErrMixed}, {six(17, 0, func(p *api.Packet) { p.Ip6.Frag.Has = true }), api.OK}, {six(17, 2, func(p *api.Packet) { p.Ip6.Frag.Has = true }), api.ErrMixed}, {six(59, 0, func(p *api.Packet) { p.Ip6.Exts = make([]api.Ext, 9) }), api.ErrExts}, {six(59, 0, func(p *api.Packet) { p.Ip6.Exts = make([]api.Ext, 1) }), api.ErrOption6},
		{four(1, 1, func(p *api.Packet) { p.Icmp.Type = 256 }), api.ErrIcmpField}, {four(1, 1, func(p *api.Packet) { p.Icmp.V = 6 }), api.ErrMixed}, {four(1, 1, func(p *api.Packet) { p.Icmp.V = 0 }), api.ErrMixed}, {six(58, 1, func(p *api.Packet) { p.Icmp.V = 4 }), api.ErrMixed}, {six(58, 1, func(p *api.Packet) { p.Icmp.Rest = -1 }), api.ErrIcmpField},
		{four(17, 2, func(p *api.Packet) { p.Udp.Dport = 65536 }), api.ErrL4Field}, {four(17, 2, func(p *api.Packet) { p.Udp.NoSum = true }), api.OK}, {six(17, 2, func(p *api.Packet) { p.Udp.NoSum = true }), api.ErrL4Field},
		{four(6, 3, func(p *api.Packet) { p.Tcp.Flags = 256 }), api.ErrL4Field}, {six(6, 3, func(p *api.Packet) { p.Tcp.Opts = []api.Opt{opt(2)} }), api.ErrTcpOption},
		{four(58, 0, asIs), api.OK}, {four(58, 1, asIs), api.ErrMixed}, {six(1, 0, asIs), api.OK}, {six(1, 1, asIs), api.ErrMixed}, {four(1, 0, asIs), api.ErrMixed}, {four(1, 2, asIs), api.ErrMixed}, {six(6, 2, asIs), api.ErrMixed}, {six(17, 3, asIs), api.ErrMixed}, {four(17+256, 2, asIs), api.ErrMixed}, {four(17+256, 0, asIs), api.ErrIp4Field},
		{four(50, 0, func(p *api.Packet) { p.Ip4.Data = []byte{1} }), api.OK}, {four(17, 2, func(p *api.Packet) { p.Ip4.Data = []byte{1} }), api.ErrMixed}, {six(58, 1, func(p *api.Packet) { p.Ip6.Data = []byte{0} }), api.ErrMixed}, {four(17, 2, func(p *api.Packet) { p.Ip4.Data = []byte{} }), api.OK},
	}
	for i, r := range rows {
		told(t, i, r.p, r.want)
	}
	for i, p := range basics() {
		told(t, i, p, api.OK)
	}
}

// 10.3: whatever the Kind, the L4 and the protocol, fragment or not.
func TestKindsAndLayers(t *testing.T) {
	for kind := -1; kind <= 5; kind++ {
		for layer := -1; layer <= 5; layer++ {
			for _, proto := range []int{0, 1, 6, 17, 50, 58, 59, 255} {
				for piece := range 4 {
					p := api.Packet{Dst: all, Src: me, Kind: kind, L4: layer}
					switch kind {
					case 1:
						p = arp(asIs)
						p.L4 = layer
					case 2:
						p = four(proto, layer, func(p *api.Packet) {
							if piece > 0 {
								p.Ip4.MF, p.Ip4.Off, p.Ip4.Data = piece&1 > 0, piece>>1*8, make([]byte, 8)
							}
						})
					case 3:
						p = six(proto, layer, func(p *api.Packet) {
							if piece > 0 {
								p.Ip6.Frag, p.Ip6.Data = api.Frag{Has: true, More: piece&1 > 0, Off: piece >> 1 * 8}, make([]byte, 8)
							}
						})
					}
					told(t, [4]int{kind, layer, proto, piece}, p, modelCheck(p))
				}
			}
		}
	}
}

// 10.3: something in a part that Kind and L4 do not name: each field of each part by itself. An empty list is nothing.
func TestStrayParts(t *testing.T) {
	parts := []string{"Arp", "Ip4", "Ip6", "Icmp", "Udp", "Tcp"}
	names := func(p api.Packet, part string) bool {
		return part == []string{"", "Arp", "Ip4", "Ip6"}[p.Kind] || part == []string{"", "Icmp", "Udp", "Tcp"}[p.L4]
	}
	for i, p := range basics() {
		for _, part := range parts {
			if names(p, part) {
				continue
			}
			fields := reflect.ValueOf(&p).Elem().FieldByName(part)
			for k := range fields.NumField() {
				for _, leaf := range leavesOf(fields.Field(k)) {
					if leaf.Kind() == reflect.Slice {
						leaf.Set(reflect.MakeSlice(leaf.Type(), 0, 3))
						told(t, [3]any{i, part, k}, p, api.OK)
						leaf.Set(reflect.MakeSlice(leaf.Type(), 1, 1))
					} else {
						scrawl(leaf)
					}
					told(t, [3]any{i, part, k}, p, api.ErrMixed)
					leaf.SetZero()
				}
			}
		}
		told(t, i, p, api.OK)
	}
}

// modelMixed tells whether values are mixed, by the document's words.
func modelMixed(p api.Packet) bool {
	if p.Kind < 1 || p.Kind > 3 || p.L4 < 0 || p.L4 > 3 || p.Kind == 1 && p.L4 != 0 {
		return true
	}
	q := bare(p)
	for i, part := range []any{q.Arp, q.Ip4, q.Ip6} {
		if p.Kind != i+1 && !reflect.ValueOf(part).IsZero() {
			return true
		}
	}
	for i, part := range []any{q.Icmp, q.Udp, q.Tcp} {
		if p.L4 != i+1 && !reflect.ValueOf(part).IsZero() {
			return true
		}
	}
	must, data, v := 0, p.Ip4.Data, 4
	if p.Kind == 2 && !p.Ip4.MF && p.Ip4.Off <= 0 {
		must = map[int]int{1: 1, 17: 2, 6: 3}[p.Ip4.Proto]
	}
	if p.Kind == 3 {
		data, v = p.Ip6.Data, 6
		if !p.Ip6.Frag.Has {
			must = map[int]int{58: 1, 17: 2, 6: 3}[p.Ip6.Next]
		}
	}
	return p.L4 != must || must != 0 && len(data) > 0 || must == 1 && p.Icmp.V != v
}

// modelCheck is Check by the document's words, number by number.
func modelCheck(p api.Packet) api.Errno {
	if e := link.Check(api.Frame{Dst: p.Dst, Src: p.Src, Tags: p.Tags, Type: 0x0800}); e != api.OK {
		return e
	}
	if modelMixed(p) {
		return api.ErrMixed
	}
	h4, h6, size := p.Ip4, p.Ip6, 14+4*len(p.Tags)
	switch p.Kind {
	case 1:
		_, e := link.PutArp(p.Arp)
		return e
	case 2:
		if e := ip4.Check(h4); e != api.OK {
			return e
		}
		if e := modelUpper(4, p); e != api.OK {
			return e
		}
		h4.Data = writer{}.upper(p)
		if e := ip4.Check(h4); e != api.OK {
			return e
		}
		b, _ := ip4.Serialise(h4)
		size += len(b)
	case 3:
		if e := ip6.Check(h6); e != api.OK {
			return e
		}
		if e := modelUpper(6, p); e != api.OK {
			return e
		}
		h6.Data = writer{}.upper(p)
		if e := ip6.Check(h6); e != api.OK {
			return e
		}
		size += ip6.Size(h6)
	}
	if size > 65535 {
		return api.ErrLong
	}
	return api.OK
}

func modelUpper(v int, p api.Packet) api.Errno {
	switch p.L4 {
	case 1:
		return icmp.Check(p.Icmp)
	case 2:
		return l4.CheckUdp(v, p.Udp)
	case 3:
		return l4.CheckTcp(p.Tcp)
	}
	return api.OK
}

// 10.3: packets in which some things are turned.
func TestTurnedPackets(t *testing.T) {
	r := rand.New(rand.NewSource(6))
	counts := map[api.Errno]int{}
	for range 20000 {
		p := turned(r, somePacket(r), r.Intn(4))
		want := modelCheck(p)
		counts[want]++
		if e := packet.Check(p); e != want {
			t.Fatalf("Check(%+v) = %d, want %d", p, e, want)
		}
		b, e := packet.Serialise(p)
		c, f := packet.Close(p)
		if e != want || f != want || want != api.OK && (b != nil || !nothing(c)) || want == api.OK && !bytes.Equal(b, writer{}.frame(p)) {
			t.Fatalf("%+v: Serialise = %x, %d, Close %+v, %d, want %d", p, b, e, c, f, want)
		}
	}
	for _, e := range []api.Errno{api.OK, api.ErrTags, api.ErrTag, api.ErrSource, api.ErrMixed, api.ErrFamily, api.ErrArpOp, api.ErrIp4Field, api.ErrIp4Option, api.ErrIp4Frag, api.ErrField6, api.ErrChain, api.ErrFrag6, api.ErrOption6, api.ErrIcmpField, api.ErrL4Field, api.ErrTcpOption} {
		if counts[e] < 5 {
			t.Errorf("%d came only %d times", e, counts[e])
		}
	}
}

// 10.3: lengths at each bound and one past it, with each number of tags.
func TestGreatest(t *testing.T) {
	opts := []api.Opt{opt(9, 1, 2)} // four bytes
	type step struct {
		from int // bytes
		e    api.Errno
	}
	rows := []struct {
		p     api.Packet
		data  func(*api.Packet) *[]byte
		most  int    // bytes of data in a frame without tags
		steps []step // other errors than the frame's
	}{
		{four(50, 0, asIs), data4, 65501, []step{{65516, api.ErrIp4Total}}},
		{four(50, 0, func(p *api.Packet) { p.Ip4.Opts = opts }), data4, 65497, []step{{65512, api.ErrIp4Total}}},
		{four(17, 0, func(p *api.Packet) { p.Ip4.Off = 8 }), data4, 65501, []step{{65508, api.ErrIp4Frag}, {65516, api.ErrIp4Total}}},
		{four(17, 2, asIs), dataUdp, 65493, []step{{65508, api.ErrIp4Total}, {65528, api.ErrLong}}},
		{four(1, 1, func(p *api.Packet) { p.Ip4.Opts = opts }), dataIcmp, 65489, []step{{65504, api.ErrIp4Total}, {65508, api.ErrLong}}},
		{four(6, 3, func(p *api.Packet) { p.Tcp.Opts = opts }), dataTcp, 65477, []step{{65492, api.ErrIp4Total}, {65512, api.ErrLong}}},
		{six(59, 0, asIs), data6, 65481, nil},
		{six(17, 0, func(p *api.Packet) { p.Ip6.Frag = api.Frag{Has: true, Off: 64} }), data6, 65473, []step{{65472, api.ErrFrag6}}},
		{six(58, 1, asIs), dataIcmp, 65473, nil}, {six(17, 2, asIs), dataUdp, 65473, nil}, {six(6, 3, asIs), dataTcp, 65461, nil},
	}
	for i, r := range rows {
		for tags := range 3 {
			r.p.Tags = slices.Repeat([]api.Tag{{TPID: 0x8100}}, tags)
			most := r.most - 4*tags
			sizes := []int{most - 1, most, most + 1, 65535, 70000}
			for _, s := range r.steps {
				sizes = append(sizes, s.from-1, s.from)
			}
			for _, n := range sizes {
				want := api.OK
				if n > most {
					want = api.ErrLong
				}
				for _, s := range r.steps {
					if n >= s.from {
						want = s.e
					}
				}
				*r.data(&r.p) = make([]byte, n)
				told(t, [3]int{i, tags, n}, r.p, want)
				if want == api.OK {
					b, _ := packet.Serialise(r.p)
					if q, e := packet.Parse(b); len(b) != 65535-most+n || e != api.OK || !same(q, r.p) {
						t.Errorf("%d, %d tags: %d bytes, read: %d", i, tags, len(b), e)
					}
				}
			}
		}
	}
}

func data4(p *api.Packet) *[]byte { return &p.Ip4.Data }

func data6(p *api.Packet) *[]byte { return &p.Ip6.Data }

func dataIcmp(p *api.Packet) *[]byte { return &p.Icmp.Data }

func dataUdp(p *api.Packet) *[]byte { return &p.Udp.Data }

func dataTcp(p *api.Packet) *[]byte { return &p.Tcp.Data }

// 10.3: of several faults the first in the document's order is told.
func TestCheckOrder(t *testing.T) {
	type fault struct {
		lay  func(*api.Packet)
		want api.Errno
	}
	frame := []fault{
		{func(p *api.Packet) { p.Src = all }, api.ErrSource}, {func(p *api.Packet) { p.Tags = append(p.Tags, api.Tag{TPID: 0x9100}) }, api.ErrTags}, {func(p *api.Packet) { p.Tags = append([]api.Tag{{TPID: 0x8100, VID: 4095}}, p.Tags...) }, api.ErrTag},
	}
	sets := []struct {
		p      api.Packet
		faults []fault
	}{
		{arp(asIs), []fault{{func(p *api.Packet) { p.L4 = 4 }, api.ErrMixed}, {func(p *api.Packet) { p.Ip6.Hop = 1 }, api.ErrMixed}, {func(p *api.Packet) { p.Arp.Op = 3 }, api.ErrArpOp}, {func(p *api.Packet) { p.Arp.SMac = all }, api.ErrArpMac}, {func(p *api.Packet) { p.Arp.SIP = left }, api.ErrFamily}}},
		{four(17, 2, asIs), []fault{{func(p *api.Packet) { p.Arp.Op = 1 }, api.ErrMixed}, {func(p *api.Packet) { p.Ip4.Data = []byte{1} }, api.ErrMixed}, {func(p *api.Packet) { p.Ip4.TTL = 256 }, api.ErrIp4Field}, {func(p *api.Packet) { p.Ip4.Opts = []api.Opt{opt(0)} }, api.ErrIp4Option}, {func(p *api.Packet) { p.Udp.Sport = -1 }, api.ErrL4Field}, {func(p *api.Packet) { p.Udp.Data = make([]byte, 65527) }, api.ErrIp4Total}}},
		{four(1, 1, asIs), []fault{{func(p *api.Packet) { p.Icmp.V = 6 }, api.ErrMixed}, {func(p *api.Packet) { p.Ip4.Dst = left }, api.ErrIp4Field}, {func(p *api.Packet) { p.Icmp.Code = -1 }, api.ErrIcmpField}, {func(p *api.Packet) { p.Icmp.Data = make([]byte, 65508) }, api.ErrLong}}},
		{six(6, 3, asIs), []fault{{func(p *api.Packet) { p.Udp.NoSum = true }, api.ErrMixed}, {func(p *api.Packet) { p.Ip6.Class = -1 }, api.ErrField6}, {func(p *api.Packet) { p.Ip6.Exts = []api.Ext{{Kind: 44}} }, api.ErrChain}, {func(p *api.Packet) { p.Tcp.Win = -1 }, api.ErrL4Field}, {func(p *api.Packet) { p.Tcp.Opts = []api.Opt{opt(3)} }, api.ErrTcpOption}, {func(p *api.Packet) { p.Tcp.Data = make([]byte, 65462) }, api.ErrLong}}},
	}
	for k, s := range sets {
		faults := slices.Concat(frame, s.faults)
		for set := range 1 << len(faults) {
			p, want := s.p, api.OK
			for i := len(faults) - 1; i >= 0; i-- {
				if set>>i&1 == 1 {
					faults[i].lay(&p)
					want = faults[i].want
				}
			}
			if e := packet.Check(p); e != want {
				t.Errorf("packet %d, faults %b: Check = %d, want %d", k, set, e, want)
			}
		}
	}
}

// 10.3, 10.13
func TestCheckLeavesPackets(t *testing.T) {
	r := rand.New(rand.NewSource(7))
	for range 1500 {
		p, kept := roomy(turned(r, somePacket(r), 1))
		e := packet.Check(p)
		if !kept() || packet.Check(p) != e {
			t.Fatalf("%+v was changed, or is not what it was: %d", p, e)
		}
	}
}
