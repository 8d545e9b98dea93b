package packet_test

import (
	"bytes"
	"math/rand"
	"reflect"
	"slices"
	"testing"

	"weir/api"
	"weir/icmp"
	"weir/ip4"
	"weir/ip6"
	"weir/l4"
	"weir/link"
	"weir/packet"
)

// golden has frames, written by hand, and what they are; all but the marked ones are canonical.
func golden() []struct {
	b     []byte
	p     api.Packet
	loose bool
} {
	zeros := func(n int) []byte { return make([]byte, n) }
	return []struct {
		b     []byte
		p     api.Packet
		loose bool
	}{
		{to(hx("0806 0001 0800 06 04 0001 020000000001 0a000001 000000000000 0a000002"), zeros(18)), arp(asIs), false},
		{to(hx("8100 a007 0806 0001 0800 06 04 0002 020000000001 0a000001 020000000009 0a000002"), zeros(14)), arp(func(p *api.Packet) {
			p.Tags, p.Arp.Op, p.Arp.TMac = []api.Tag{{TPID: 0x8100, PCP: 5, VID: 7}}, 2, api.Mac{2, 5: 9}
		}), false},
		{to(hx("0800 4500001c 00000000 400166df 0a000001 0a000002 0800f7fd 00010001"), zeros(18)), four(1, api.LIcmp, func(p *api.Packet) { p.Icmp.Type, p.Icmp.Rest = 8, 65537 }), false},
		{to(hx("0800 4500001c 00000000 400166df 0a000001 0a000002 0000ffff 00000000"), zeros(18)), four(1, api.LIcmp, asIs), false},
		{to(hx("0800 4500001e 00000000 401166cd 0a000001 0a000002 0001 0002 000a 836b 6869"), zeros(16)), four(17, api.LUdp, func(p *api.Packet) { p.Udp = api.Udp{Sport: 1, Dport: 2, Data: []byte("hi")} }), false},
		{to(hx("0800 4500001e 00000000 401166cd 0a000001 0a000002 0001 0002 000a 0000 6869"), zeros(16)), four(17, api.LUdp, func(p *api.Packet) { p.Udp = api.Udp{Sport: 1, Dport: 2, NoSum: true, Data: []byte("hi")} }), false},
		{to(hx("0800 45000020 00000000 401166cb 0a000001 0a000002 0001 0002 000a 836b 6869 ffff"), zeros(14)), four(17, api.LUdp, func(p *api.Packet) { p.Udp = api.Udp{Sport: 1, Dport: 2, Data: []byte("hi")} }), true},
		{to(hx("0800 45000016 00000000 403266b4 0a000001 0a000002 0102"), zeros(24)), four(50, api.LNone, func(p *api.Packet) { p.Ip4.Data = []byte{1, 2} }), false},
		{to(hx("0800 45000016 00000000 403266b4 0a000001 0a000002 0102")), four(50, api.LNone, func(p *api.Packet) { p.Ip4.Data = []byte{1, 2} }), true},
		{to(hx("0800 4500001c 00002000 401146cf 0a000001 0a000002 0001020304050607"), zeros(18)), four(17, api.LNone, func(p *api.Packet) { p.Ip4.MF, p.Ip4.Data = true, []byte{0, 1, 2, 3, 4, 5, 6, 7} }), false},
		{to(hx("0800 45000014 00000001 403a66ad 0a000001 0a000002"), zeros(26)), four(58, api.LNone, func(p *api.Packet) { p.Ip4.Off = 8 }), false},
		{to(hx("86dd 60000000 0008 3a40 20010db8000000000000000000000001 20010db8000000000000000000000002 8000 2446 00010001")), six(58, api.LIcmp, func(p *api.Packet) { p.Icmp.Type, p.Icmp.Rest = 128, 65537 }), false},
		{to(hx("86dd 60000000 0000 3b40 20010db8000000000000000000000001 20010db8000000000000000000000002"), zeros(6)), six(59, api.LNone, asIs), false},
		{to(hx("86dd 60000000 0003 0140 20010db8000000000000000000000001 20010db8000000000000000000000002 080001"), zeros(3)), six(1, api.LNone, func(p *api.Packet) { p.Ip6.Data = []byte{8, 0, 1} }), false},
		{to(hx("86dd 60000000 000b 2c40 20010db8000000000000000000000001 20010db8000000000000000000000002 3a00000000000007 010203")), six(58, api.LNone, func(p *api.Packet) {
			p.Ip6.Frag, p.Ip6.Data = api.Frag{Has: true, ID: 7}, []byte{1, 2, 3}
		}), false},
	}
}

// 10.2, 10.4, 10.5
func TestGoldenFrames(t *testing.T) {
	for i, g := range golden() {
		p, e := packet.Parse(g.b)
		if e != api.OK || !same(p, g.p) {
			t.Errorf("%d: Parse = %+v, %d", i, p, e)
		}
		b, e := packet.Serialise(g.p)
		if e != api.OK || bytes.Equal(b, g.b) == g.loose || packet.Check(g.p) != api.OK {
			t.Errorf("%d: Serialise = %x, %d", i, b, e)
		}
		if n, e := packet.Normal(g.b); e != api.OK || !bytes.Equal(n, b) {
			t.Errorf("%d: Normal = %x, %d", i, n, e)
		}
	}
}

// in4 is a frame with an IPv4 datagram of that protocol, in6 one with an IPv6 datagram, whatever stands in them.
func in4(proto int, data ...byte) []byte {
	return to(hx("0800"), writer{}.four(four(proto, 0, asIs).Ip4, data))
}

func in6(next int, data ...byte) []byte {
	return to(hx("86dd"), writer{}.six(six(next, 0, asIs).Ip6, data))
}

// 10.2, 10.5: each layer's errors are handed on, the outer layers' first; nothing comes beside them.
func TestParseErrors(t *testing.T) {
	z := func(n int) []byte { return make([]byte, n) }
	good4 := writer{}.four(four(50, 0, asIs).Ip4, nil)
	rows := []struct {
		b    []byte
		want api.Errno
	}{
		{nil, api.ErrRunt}, {to(hx("08")), api.ErrRunt}, {z(65536), api.ErrLong}, {to(hx("88cc"), z(46)), api.ErrEther}, {to(hx("0600")), api.ErrEther}, {to(hx("0801"), good4), api.ErrEther}, {to(hx("0805")), api.ErrEther}, {to(hx("86dc")), api.ErrEther}, {to(hx("86de")), api.ErrEther}, {to(hx("ffff")), api.ErrEther},
		{to(hx("002e"), z(46)), api.ErrType}, {to(hx("0000"), z(46)), api.ErrType}, {slices.Concat(me[:], all[:], hx("88cc")), api.ErrSource}, {to(hx("8100 0fff 0800"), good4), api.ErrTag}, {to(hx("8100 0001 88a8 0001 0800"), good4), api.ErrTags}, {to(hx("8100 0001 08")), api.ErrRunt},
		{to(hx("0806"), z(27)), api.ErrArpShort}, {to(hx("0806"), z(28)), api.ErrArpForm}, {to(hx("0806 0001 0800 06 04 0003"), z(20)), api.ErrArpOp}, {to(hx("0806 0001 0800 06 04 0001"), z(20)), api.ErrArpMac},
		{to(hx("0800")), api.ErrIp4Short}, {to(hx("0800"), z(46)), api.ErrIp4Version}, {to(hx("0800 44"), z(46)), api.ErrIp4Head}, {to(hx("0800"), good4[:20], z(3))[:33], api.ErrIp4Short}, {to(hx("0800 4500 0013"), z(46)), api.ErrIp4Total}, {to(hx("0800 4500 0014"), z(46)), api.ErrIp4Sum},
		{to(hx("0800"), writer{}.four(api.Ip4{Proto: 50, Opts: []api.Opt{opt(7, 1), opt(9, 0, 9)}}, nil)), api.OK}, {to(hx("0800"), summed4("46000018 00000000 40320000 0a000001 0a000002 09050000")), api.ErrIp4Option}, {to(hx("0800"), summed4("45000014 00002000 40320000 0a000001 0a000002")), api.ErrIp4Frag},
		{to(hx("86dd"), z(39)), api.ErrShort6}, {to(hx("86dd"), z(40)), api.ErrVersion6}, {in6(17, z(8)...)[:54], api.ErrShort6}, {in6(60, z(7)...), api.ErrChain}, {in6(60, hx("0000 0104 00000000")...), api.ErrFirst}, {in6(43, bytes.Repeat(hx("2b00 0000 0000 0000"), 9)...), api.ErrExts}, {in6(60, hx("3b00 0505 0000 0100")...), api.ErrOption6}, {in6(44, hx("1100 0001 0000 0007")...), api.ErrFrag6},
		{in4(1, z(7)...), api.ErrIcmpShort}, {in4(1, z(8)...), api.ErrIcmpSum}, {in6(58, z(7)...), api.ErrIcmpShort}, {in6(58, z(8)...), api.ErrIcmpSum},
		{in4(17, z(7)...), api.ErrUdpShort}, {in4(17, z(8)...), api.ErrUdpLength}, {in4(17, hx("0001 0002 0009 0000")...), api.ErrUdpLength}, {in4(17, hx("0001 0002 0008 0001")...), api.ErrUdpSum}, {in6(17), api.ErrUdpShort}, {in6(17, hx("0001 0002 0008 0000")...), api.ErrUdpSum},
		{in4(6, z(19)...), api.ErrTcpShort}, {in4(6, z(20)...), api.ErrTcpHead}, {in6(6, z(20)...), api.ErrTcpHead}, {in6(6, append(z(12), hx("50 00 0000 0000 0000")...)...), api.ErrTcpSum}, {in6(6, tcpSummed(left, right, append(z(12), hx("60 00 0000 0000 0000 02030000")...))...), api.ErrTcpOption}, {in4(6, tcpSummed(ten, two, append(z(12), hx("60 00 0000 0000 0000 0a050000")...))...), api.ErrTcpOption},
		{in4(50), api.OK}, {in4(58, 1, 2), api.OK}, {in6(1, 1, 2), api.OK}, {in6(59), api.OK}, {in6(51, z(3)...), api.OK},
		{to(hx("0800"), make([]byte, 65535-14)), api.ErrIp4Version}, {to(hx("0800"), make([]byte, 65536-14)), api.ErrLong},
	}
	for i, r := range rows {
		p, e := packet.Parse(r.b)
		n, f := packet.Normal(r.b)
		if e != r.want || f != r.want {
			t.Errorf("%d: Parse = %d, Normal %d, want %d", i, e, f, r.want)
		}
		if e != api.OK && (!nothing(p) || n != nil) {
			t.Errorf("%d: beside the error %d stand %+v and %x", i, e, p, n)
		}
	}
}

// summed4 is a header of IPv4 whose sum is put right, tcpSummed a segment.
func summed4(s string) []byte {
	b := hx(s)
	return writer{}.summed(b, 10, rightSum(b), 0)
}

func tcpSummed(src, dst api.IP, b []byte) []byte {
	return writer{}.summed(b, 16, rightSum(src.A[:], dst.A[:], word(len(b)), word(6), b), 0)
}

// 10.2: a frame without padding, with padding, with anything behind the datagram.
func TestBytesBehindAreLetGo(t *testing.T) {
	for i, p := range basics() {
		b := writer{}.frame(p)
		n := len(b)
		for n > 14 {
			if _, e := packet.Parse(b[:n-1]); e != api.OK {
				break
			}
			n--
		}
		for _, c := range [][]byte{b[:n], append(slices.Clone(b[:n]), 7), append(slices.Clone(b[:n]), some(rand.New(rand.NewSource(1)), 65535-n)...)} {
			q, e := packet.Parse(c)
			w, f := packet.Normal(c)
			if e != api.OK || f != api.OK || !same(q, p) || !bytes.Equal(w, b) {
				t.Errorf("packet %d with %d bytes: %+v, %d, %d", i, len(c), q, e, f)
			}
		}
	}
}

// modelParse reads a frame as the document's words say, layer by layer.
func modelParse(b []byte) (api.Packet, api.Errno) {
	f, e := link.Parse(b)
	p := api.Packet{Dst: f.Dst, Src: f.Src, Tags: f.Tags}
	if e == api.OK {
		switch f.Type {
		case 0x0806:
			p.Kind = 1
			p.Arp, e = link.ParseArp(f.Data)
		case 0x0800:
			p.Kind = 2
			if p.Ip4, e = ip4.Parse(f.Data); e == api.OK {
				p, e = modelOpen(p)
			}
		case 0x86dd:
			p.Kind = 3
			if p.Ip6, e = ip6.Parse(f.Data); e == api.OK {
				p, e = modelOpen(p)
			}
		default:
			e = api.ErrEther
		}
	}
	if e != api.OK {
		return api.Packet{}, e
	}
	return p, api.OK
}

// modelOpen reads the upper layer as the document's words say, version by version.
func modelOpen(p api.Packet) (api.Packet, api.Errno) {
	e := api.OK
	switch h, g := p.Ip4, p.Ip6; {
	case p.L4 != 0:
	case p.Kind == 2 && (h.MF || h.Off > 0):
	case p.Kind == 3 && g.Frag.Has:
	case p.Kind == 2 && h.Proto == 1:
		p.L4, p.Ip4.Data = 1, nil
		p.Icmp, e = icmp.Parse(4, h.Src, h.Dst, h.Data)
	case p.Kind == 2 && h.Proto == 17:
		p.L4, p.Ip4.Data = 2, nil
		p.Udp, e = l4.ParseUdp(h.Src, h.Dst, h.Data)
	case p.Kind == 2 && h.Proto == 6:
		p.L4, p.Ip4.Data = 3, nil
		p.Tcp, e = l4.ParseTcp(h.Src, h.Dst, h.Data)
	case p.Kind == 3 && g.Next == 58:
		p.L4, p.Ip6.Data = 1, nil
		p.Icmp, e = icmp.Parse(6, g.Src, g.Dst, g.Data)
	case p.Kind == 3 && g.Next == 17:
		p.L4, p.Ip6.Data = 2, nil
		p.Udp, e = l4.ParseUdp(g.Src, g.Dst, g.Data)
	case p.Kind == 3 && g.Next == 6:
		p.L4, p.Ip6.Data = 3, nil
		p.Tcp, e = l4.ParseTcp(g.Src, g.Dst, g.Data)
	}
	if e != api.OK {
		return api.Packet{}, e
	}
	return p, api.OK
}

// someFrame is often a frame, or near to one.
func someFrame(r *rand.Rand) []byte {
	b := writer{r}.frame(somePacket(r))
	for range r.Intn(3) {
		b[r.Intn(len(b))] ^= 1 << r.Intn(8)
	}
	if r.Intn(8) == 0 {
		b = b[:r.Intn(len(b)+1)]
	}
	if r.Intn(20) == 0 {
		b = some(r, r.Intn(100))
	}
	return b
}

// 10.2, 10.5, 10.11, 10.13: of any bytes what the layers say; what is read is taken by Check and has one form; nothing is changed.
func TestAnyBytes(t *testing.T) {
	r := rand.New(rand.NewSource(1))
	counts := map[api.Errno]int{}
	for range 20000 {
		b, whole := roomyBytes(someFrame(r))
		kept := slices.Clone(whole)
		p, e := packet.Parse(b)
		q, want := modelParse(b)
		if e != want || !same(p, q) {
			t.Fatalf("Parse(%x) = %+v, %d, want %+v, %d", b, p, e, q, want)
		}
		counts[e]++
		n, f := packet.Normal(b)
		if f != e || e != api.OK && (n != nil || !nothing(p)) {
			t.Fatalf("Normal(%x) = %x, %d, want %d", b, n, f, e)
		}
		if e == api.OK {
			oneForm(t, b, p, n)
		}
		if !bytes.Equal(whole, kept) {
			t.Fatalf("%x was changed", b)
		}
	}
	if counts[api.OK] < 3000 {
		t.Errorf("read were %d", counts[api.OK])
	}
	for _, e := range []api.Errno{api.ErrRunt, api.ErrEther, api.ErrSource, api.ErrArpForm, api.ErrIp4Sum, api.ErrShort6, api.ErrIcmpSum, api.ErrUdpSum, api.ErrTcpSum} {
		if counts[e] < 5 {
			t.Errorf("error %d came only %d times", e, counts[e])
		}
	}
}

// oneForm holds 10.11 of a frame that was read as p and whose form is n.
func oneForm(t *testing.T, b []byte, p api.Packet, n []byte) {
	t.Helper()
	if packet.Check(p) != api.OK || len(n) > max(len(b), 60) {
		t.Fatalf("%x: Check = %d, Normal %x", b, packet.Check(p), n)
	}
	q, e := packet.Parse(n)
	again, f := packet.Normal(n)
	if e != api.OK || f != api.OK || !same(p, q) || !bytes.Equal(again, n) {
		t.Fatalf("Normal(%x) = %x is read as %+v, %d, and its form is %x, %d", b, n, q, e, again, f)
	}
}

// 10.4, 10.5, 10.10, 10.11: each packet is written in one form, which is read as it; and so is whatever says the same.
func TestOneForm(t *testing.T) {
	r := rand.New(rand.NewSource(2))
	shapes := map[[2]int]int{}
	for range 15000 {
		p := somePacket(r)
		shapes[[2]int{p.Kind, p.L4}]++
		want := writer{}.frame(p)
		b, e := packet.Serialise(p)
		if e != api.OK || !bytes.Equal(b, want) || packet.Check(p) != api.OK {
			t.Fatalf("Serialise(%+v) = %x, %d, want %x", p, b, e, want)
		}
		if q, e := packet.Parse(b); e != api.OK || !same(q, p) {
			t.Fatalf("Parse(%x) = %+v, %d, want %+v", b, q, e, p)
		}
		loose := writer{r}.frame(p)
		q, e := packet.Parse(loose)
		n, f := packet.Normal(loose)
		if e != api.OK || f != api.OK || !same(q, p) || !bytes.Equal(n, b) || len(n) > max(len(loose), 60) {
			t.Fatalf("%x is read as %+v, %d, and its form is %x, %d; want %+v, %x", loose, q, e, n, f, p, b)
		}
	}
	for _, s := range [][2]int{{1, 0}, {2, 0}, {2, 1}, {2, 2}, {2, 3}, {3, 0}, {3, 1}, {3, 2}, {3, 3}} {
		if shapes[s] < 300 {
			t.Errorf("packets of the shape %v came only %d times", s, shapes[s])
		}
	}
}

// 10.10: two packets that are not the same have two frames.
func TestTwoPacketsTwoFrames(t *testing.T) {
	r := rand.New(rand.NewSource(3))
	for range 200 {
		p := somePacket(r)
		b, _ := packet.Serialise(p)
		for range 60 {
			q := turned(r, p, 1)
			c, e := packet.Serialise(q)
			if e == api.OK && bytes.Equal(b, c) != same(p, q) {
				t.Fatalf("%+v and %+v: %x", p, q, b)
			}
		}
	}
}

// 10.12: all sums are right, both where the right one is zero and elsewhere; zeros stand behind.
func TestSumsAreRight(t *testing.T) {
	zeros := [3]int{}
	for id := range 65536 {
		b, e := packet.Serialise(four(1, api.LIcmp, func(p *api.Packet) { p.Ip4.ID, p.Icmp.Rest, p.Icmp.Type = id, id, 1 }))
		if e != api.OK || len(b) != 60 || sumOver(b[14:34]) != 0 || sumOver(b[34:42]) != 0 || slices.Max(b[42:]) != 0 {
			t.Fatalf("%x, %d", b, e)
		}
		zeros[0] += zeroAt(b, 24)
		zeros[1] += zeroAt(b, 36)
		b, e = packet.Serialise(four(17, api.LUdp, func(p *api.Packet) { p.Udp.Sport = id }))
		if e != api.OK || sumOver(b[26:34], word(17), word(8), b[34:42]) != 0 || zeroAt(b, 40) != 0 {
			t.Fatalf("%x, %d", b, e)
		}
		if b[40] == 255 && b[41] == 255 {
			zeros[2]++
		}
	}
	if zeros != [3]int{1, 1, 1} {
		t.Errorf("zeros: %v", zeros)
	}
}

func zeroAt(b []byte, at int) int { return bit(b[at] == 0 && b[at+1] == 0, 1) }

// sumOver is 0 if bytes hold their right sum.
func sumOver(parts ...[]byte) int { return rightSum(parts...) % 65535 }

// 10.12: no sum of a UDP datagram with NoSum.
func TestNoSumIsWritten(t *testing.T) {
	b, e := packet.Serialise(four(17, api.LUdp, func(p *api.Packet) { p.Udp = api.Udp{Sport: 9, NoSum: true, Data: []byte{1}} }))
	if e != api.OK || !bytes.Equal(b[34:43], hx("0009 0000 0009 0000 01")) || sumOver(b[14:34]) != 0 {
		t.Errorf("%x, %d", b, e)
	}
}

// 10.4, 10.12: at least 60 bytes, and no more than the datagram asks for above that.
func TestPadding(t *testing.T) {
	for n := range 80 {
		for tags := range 3 {
			p := four(50, 0, func(p *api.Packet) {
				p.Ip4.Data = bytes.Repeat([]byte{9}, n)
				p.Tags = slices.Repeat([]api.Tag{{TPID: 0x8100, VID: 1}}, tags)
			})
			b, e := packet.Serialise(p)
			whole := 14 + 4*tags + 20 + n
			if e != api.OK || len(b) != max(60, whole) || slices.ContainsFunc(b[whole:], func(v byte) bool { return v != 0 }) {
				t.Errorf("%d bytes, %d tags: %x, %d", n, tags, b, e)
			}
		}
	}
}

// 10.2, 10.13: the lists of bytes are windows of b, of their own capacity, but runs of padding; the others are new.
func TestParseAnswersWindows(t *testing.T) {
	r := rand.New(rand.NewSource(4))
	for range 3000 {
		b, whole := roomyBytes(writer{r}.frame(somePacket(r)))
		p, e := packet.Parse(b)
		if e != api.OK {
			t.Fatalf("%x: %d", b, e)
		}
		runs := paddingRuns(p)
		lists := byteLists(&p)
		kept := slices.Clone(whole)
		for _, l := range lists {
			if inWindow := windowOf(whole, l); inWindow == slices.ContainsFunc(runs, func(x []byte) bool { return &x[0] == &l[0] }) {
				t.Fatalf("%x: a list of %d bytes is a window: %t", b, len(l), inWindow)
			} else if inWindow && cap(l) != len(l) {
				t.Fatalf("%x: a window of %d bytes has the capacity %d", b, len(l), cap(l))
			}
			_ = append(l, 1)
		}
		if !bytes.Equal(whole, kept) {
			t.Fatalf("what was appended stands in %x", whole)
		}
		q, _ := packet.Parse(b)
		before := bare(q)
		scrawl(reflect.ValueOf(&p.Tags).Elem())
		for _, x := range runs {
			scrawl(reflect.ValueOf(x))
		}
		clear(p.Ip4.Opts)
		clear(p.Ip6.Exts)
		clear(p.Tcp.Opts)
		if !reflect.DeepEqual(bare(q), before) || !bytes.Equal(whole, kept) {
			t.Fatalf("%x: two answers share a list", b)
		}
	}
}

// windowOf tells whether a list lies within b's memory.
func windowOf(b, l []byte) bool {
	for i := range b {
		if &b[i] == &l[0] {
			return true
		}
	}
	return false
}

func paddingRuns(p api.Packet) (l [][]byte) {
	for _, x := range p.Ip6.Exts {
		for _, o := range x.Opts {
			if o.Kind == 0 {
				l = append(l, o.Data)
			}
		}
	}
	return l
}

// 10.13: the answers of Serialise and Normal are new memory.
func TestFramesAreNewMemory(t *testing.T) {
	r := rand.New(rand.NewSource(5))
	for range 3000 {
		p, kept := roomy(somePacket(r))
		b, e := packet.Serialise(p)
		want := slices.Clone(b)
		scrawl(reflect.ValueOf(b[:cap(b)]))
		if e != api.OK || !kept() {
			t.Fatalf("Serialise(%+v): %d, or it was changed", p, e)
		}
		part, whole := roomyBytes(want)
		before := slices.Clone(whole)
		n, e := packet.Normal(part)
		scrawl(reflect.ValueOf(n[:cap(n)]))
		if e != api.OK || !bytes.Equal(whole, before) {
			t.Fatalf("Normal(%x): %d, or it was changed", part, e)
		}
		if c, e := packet.Serialise(p); e != api.OK || !bytes.Equal(c, want) {
			t.Fatalf("the second time: %x, %d, want %x", c, e, want)
		}
	}
}
