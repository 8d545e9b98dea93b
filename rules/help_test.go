package rules_test

import (
	"math/rand"
	"reflect"
	"slices"
	"strings"
	"testing"

	"weir/addr"
	"weir/api"
	"weir/rules"
)

func net(t *testing.T, text string) api.Prefix {
	t.Helper()
	p, e, _ := addr.ParsePrefix(text)
	if e != api.OK {
		t.Fatalf("ParsePrefix(%s): %d", text, e)
	}
	return p
}

// plain is a rule whose lists without an element are nil.
func plain(r api.Rule) api.Rule {
	for _, s := range []*api.Side{&r.From, &r.To} {
		if len(s.Nets) == 0 {
			s.Nets = nil
		}
		if len(s.Ports) == 0 {
			s.Ports = nil
		}
	}
	return r
}

func same(a, b api.Rule) bool { return reflect.DeepEqual(plain(a), plain(b)) }

func sameAll(a, b []api.Rule) bool { return slices.EqualFunc(a, b, same) }

func reads(t *testing.T, line string, want api.Rule) {
	t.Helper()
	if r, e, place := rules.ParseRule(line); !same(r, want) || e != api.OK || place != 0 {
		t.Errorf("ParseRule(%q) = %+v, %d, %d\nwant %+v", line, r, e, place, want)
	}
}

func refuses(t *testing.T, line string, want api.Errno, at int) {
	t.Helper()
	if r, e, place := rules.ParseRule(line); !same(r, api.Rule{}) || e != want || place != at {
		t.Errorf("ParseRule(%q) = %+v, %d, %d; want %d, %d", line, r, e, place, want, at)
	}
}

func prints(t *testing.T, r api.Rule, want string) {
	t.Helper()
	if line, e := rules.PrintRule(r); line != want || e != api.OK {
		t.Errorf("PrintRule(%+v) = %q, %d\nwant %q", r, line, e, want)
	}
}

// checks wants Check to answer e; PrintRule and New lean on it, so they are to answer the same.
func checks(t *testing.T, r api.Rule, e api.Errno) {
	t.Helper()
	if got := rules.Check(r); got != e {
		t.Errorf("Check(%+v) = %d, want %d", r, got, e)
	}
	if line, got := rules.PrintRule(r); got != e || (line == "") != (e != api.OK) {
		t.Errorf("PrintRule(%+v) = %q, %d, want %d", r, line, got, e)
	}
	number := 1
	if e == api.OK {
		number = 0
	}
	if s, got, n := rules.New(api.Rule{Act: api.APermit}, r); got != e || n != number || (s == nil) != (e != api.OK) {
		t.Errorf("New(.., %+v) = %v, %d, %d, want %d, %d", r, s, got, n, e, number)
	}
}

func set(t *testing.T, lines ...string) *rules.Set {
	t.Helper()
	s, e, line, place := rules.Parse(lines...)
	if s == nil || e != api.OK || line != 0 || place != 0 {
		t.Fatalf("Parse(%q) = %v, %d, %d, %d", lines, s, e, line, place)
	}
	return s
}

func made(t *testing.T, l ...api.Rule) *rules.Set {
	t.Helper()
	s, e, n := rules.New(l...)
	if s == nil || e != api.OK || n != 0 {
		t.Fatalf("New(%+v) = %v, %d, %d", l, s, e, n)
	}
	return s
}

func judges(t *testing.T, s *rules.Set, port int, p api.Packet, want api.Verdict) {
	t.Helper()
	if v := s.Judge(port, p); v != want {
		t.Errorf("%q: Judge(%d, %+v) = %+v, want %+v", s.Lines(), port, p, v, want)
	}
}

var denied = api.Verdict{Act: api.ADeny, Rule: -1}

// matches wants a line to match a packet, or not to.
func matches(t *testing.T, line string, port int, p api.Packet, ok bool) {
	t.Helper()
	want := denied
	if ok {
		want = api.Verdict{Act: api.APermit}
	}
	judges(t, set(t, line), port, p, want)
}

// tcp, udp, echo and ask are ordinary packets; with turns one into another.
func with(p api.Packet, turn func(*api.Packet)) api.Packet {
	turn(&p)
	return p
}

func tcp() api.Packet {
	return api.Packet{Kind: api.PIp4, L4: api.LTcp,
		Ip4: api.Ip4{TTL: 64, Proto: 6, Src: api.IP{V: 4, A: [16]byte{10, 0, 0, 1}}, Dst: api.IP{V: 4, A: [16]byte{192, 0, 2, 1}}},
		Tcp: api.Tcp{Sport: 1024, Dport: 80, Flags: api.TcpSyn | api.TcpAck}}
}

func udp() api.Packet {
	return api.Packet{Kind: api.PIp6, L4: api.LUdp,
		Ip6: api.Ip6{Hop: 64, Next: 17, Src: api.IP{V: 6, A: [16]byte{0: 0x20, 1: 1, 15: 1}}, Dst: api.IP{V: 6, A: [16]byte{0: 0x20, 1: 1, 15: 2}}},
		Udp: api.Udp{Sport: 53, Dport: 5353}}
}

func echo() api.Packet {
	return with(tcp(), func(p *api.Packet) {
		p.L4, p.Ip4.Proto, p.Tcp, p.Icmp = api.LIcmp, 1, api.Tcp{}, api.Icmp{V: 4, Type: 8}
	})
}

func ask() api.Packet {
	return api.Packet{Kind: api.PArp, Tags: []api.Tag{{TPID: 0x88a8, VID: 7}, {TPID: 0x8100, VID: 8}},
		Arp: api.Arp{Op: 1, SIP: api.IP{V: 4, A: [16]byte{10, 0, 0, 1}}, TIP: api.IP{V: 4, A: [16]byte{10, 0, 0, 2}}}}
}

// dice draws rules, lines and packets.
type dice struct{ *rand.Rand }

func pick[T any](d dice, l ...T) T { return l[d.Intn(len(l))] }

// address is one of few, so that nets and packets meet.
func (d dice) address(version int) api.IP {
	if version == 4 {
		return api.IP{V: 4, A: [16]byte{10, byte(d.Intn(2)), 0, byte(d.Intn(4))}}
	}
	return api.IP{V: 6, A: [16]byte{0: pick[byte](d, 0, 0x20), 1: byte(d.Intn(2)), 15: byte(d.Intn(4))}}
}

func (d dice) prefix(kind int) api.Prefix {
	version := pick(d, 4, 6)
	switch kind {
	case api.PArp, api.PIp4:
		version = 4
	case api.PIp6:
		version = 6
	}
	n := pick(d, 0, 8, 16, 30, 31, 32)
	if version == 6 && d.Intn(2) == 0 {
		n = pick(d, 96, 126, 127, 128)
	}
	a, e := addr.Mask(d.address(version), n)
	if e != api.OK {
		panic(e)
	}
	return api.Prefix{IP: a, Len: n}
}

func (d dice) ports() api.Range {
	low := pick(d, 0, 1, 53, 80, 443, 65534)
	return api.Range{Lo: low, Hi: min(65535, low+pick(d, 0, 0, 1, 30, 65535))}
}

func (d dice) side(r api.Rule) api.Side {
	var s api.Side
	if d.Intn(2) == 0 {
		for range 1 + d.Intn(3) {
			s.Nets = append(s.Nets, d.prefix(r.Kind))
		}
		s.Not = d.Intn(3) == 0
	}
	if (r.Proto == 6 || r.Proto == 17) && d.Intn(2) == 0 {
		for range 1 + d.Intn(3) {
			s.Ports = append(s.Ports, d.ports())
		}
	}
	return s
}

// rule is one that Check takes.
func (d dice) rule() api.Rule {
	r := api.Rule{Act: 1 + d.Intn(3), Kind: d.Intn(4)}
	if r.Act == api.APermit {
		r.Class = d.Intn(8)
	}
	if r.Kind != api.PArp {
		r.Proto = pick(d, 0, 1, 6, 6, 6, 17, 17, 50, 58, 255)
	}
	if d.Intn(3) == 0 {
		r.In = d.Intn(9)
	}
	if d.Intn(4) == 0 {
		r.Vid = pick(d, 0, 1, 7, 4094)
	}
	r.From, r.To = d.side(r), d.side(r)
	if r.Proto == 6 && d.Intn(2) == 0 {
		r.Set = d.Intn(256) & d.Intn(256)
		r.Clear = d.Intn(256) & d.Intn(256) &^ r.Set
	}
	if (r.Proto == 1 || r.Proto == 58) && d.Intn(2) == 0 {
		r.Type = pick(d, 0, 1, 9, 129, 256)
	}
	r.Pieces = d.Intn(5) == 0
	return r
}

// packet is one of any values, likely to be of those that rules ask for; it need not be one that may be.
func (d dice) packet() api.Packet {
	p := api.Packet{Kind: pick(d, 0, 1, 2, 2, 2, 3, 3, 3, 4), L4: pick(d, 0, 1, 2, 3, 3, 4)}
	for range d.Intn(3) {
		p.Tags = append(p.Tags, api.Tag{VID: pick(d, 0, 1, 7, 4094)})
	}
	p.Arp = api.Arp{SIP: d.address(4), TIP: d.address(4)}
	p.Ip4 = api.Ip4{Proto: pick(d, 0, 1, 6, 6, 17, 50, 58, 255), MF: d.Intn(6) == 0, Off: pick(d, 0, 0, 0, 8, -8), Src: d.address(4), Dst: d.address(4)}
	p.Ip6 = api.Ip6{Next: pick(d, 0, 1, 6, 6, 17, 50, 58, 255), Src: d.address(6), Dst: d.address(6)}
	p.Ip6.Frag.Has = d.Intn(5) == 0
	if d.Intn(10) == 0 {
		p.Ip4.Src, p.Ip6.Dst = api.IP{}, d.address(4)
	}
	p.Icmp = api.Icmp{Type: pick(d, -1, 0, 8, 128, 255, 256)}
	p.Udp = api.Udp{Sport: pick(d, -1, 0, 53, 80, 443, 65535, 65536), Dport: pick(d, 0, 54, 80, 444)}
	p.Tcp = api.Tcp{Sport: pick(d, -1, 0, 53, 80, 443, 65535, 65536), Dport: pick(d, 0, 54, 80, 444), Flags: pick(d, 0, d.Intn(256), 255, -1)}
	return p
}

func (d dice) some(n int) []api.Rule {
	l := make([]api.Rule, n)
	for i := range l {
		l[i] = d.rule()
	}
	return l
}

// line is the one that PrintRule writes.
func line(t *testing.T, r api.Rule) string {
	t.Helper()
	text, e := rules.PrintRule(r)
	if e != api.OK {
		t.Fatalf("PrintRule(%+v): %d", r, e)
	}
	return text
}

// lines repeats a line.
func lines(text string, n int) []string { return slices.Repeat([]string{text}, n) }

// long is a line of n bytes, whose end is blank.
func long(text string, n int) string { return text + strings.Repeat(" ", n-len(text)) }
