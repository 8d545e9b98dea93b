package rules_test

import (
	"math/rand"
	"slices"
	"strings"
	"testing"

	"weir/api"
	"weir/rules"
)

// 16.3: the order of the words, and what is left out.
func TestPrint(t *testing.T) {
	four, one := net(t, "10.0.0.0/8"), net(t, "::1/128")
	side := api.Side{Not: true, Nets: []api.Prefix{one, four}, Ports: []api.Range{{Lo: 0, Hi: 0}, {Lo: 0, Hi: 1}, {Lo: 65535, Hi: 65535}}}
	rows := []struct {
		want string
		r    api.Rule
	}{
		{"permit any", api.Rule{Act: 1, Class: 0}},
		{"permit class 7 any", api.Rule{Act: 1, Class: 7}},
		{"deny arp", api.Rule{Act: 2, Kind: 1}},
		{"reject ip4", api.Rule{Act: 3, Kind: 2}},
		{"deny ip6", api.Rule{Act: 2, Kind: 3}},
		{"deny tcp", api.Rule{Act: 2, Proto: 6}},
		{"deny udp", api.Rule{Act: 2, Proto: 17}},
		{"deny icmp", api.Rule{Act: 2, Proto: 1}},
		{"deny icmp6", api.Rule{Act: 2, Proto: 58}},
		{"deny proto 2", api.Rule{Act: 2, Proto: 2}},
		{"deny proto 255", api.Rule{Act: 2, Proto: 255}},
		{"deny ip4 icmp6", api.Rule{Act: 2, Kind: 2, Proto: 58}},
		{"deny ip6 proto 50", api.Rule{Act: 2, Kind: 3, Proto: 50}},
		{"deny any on p0", api.Rule{Act: 2, In: 1}},
		{"deny any on p7 vid 4094", api.Rule{Act: 2, In: 8, Vid: 4094}},
		{"deny any from 10.0.0.0/8 to ::1", api.Rule{Act: 2, From: api.Side{Nets: []api.Prefix{four}}, To: api.Side{Nets: []api.Prefix{one}}}},
		{"deny any to not ::1,10.0.0.0/8", api.Rule{Act: 2, To: api.Side{Not: true, Nets: []api.Prefix{one, four}}}},
		{"deny tcp from any port 0 to any port 5-6", api.Rule{Act: 2, Proto: 6, From: api.Side{Ports: make([]api.Range, 1)}, To: api.Side{Ports: []api.Range{{Lo: 5, Hi: 6}}}}},
		{"deny any from ::/0,0.0.0.0/0,0.0.0.0,::", api.Rule{Act: 2, From: api.Side{Nets: []api.Prefix{net(t, "::/0"), net(t, "0.0.0.0/0"), net(t, "0.0.0.0/32"), net(t, "::/128")}}}},
		{"deny any from ::/32,::ffff:1.2.3.4,::/127,10.0.0.0/31", api.Rule{Act: 2, From: api.Side{Nets: []api.Prefix{net(t, "::/32"), net(t, "::ffff:1.2.3.4/128"), net(t, "::/127"), net(t, "10.0.0.0/31")}}}},
		{"deny icmp type 0", api.Rule{Act: 2, Proto: 1, Type: 1}},
		{"deny icmp6 type 255 pieces", api.Rule{Act: 2, Proto: 58, Type: 256, Pieces: true}},
		{"deny tcp flags fin,syn,rst,psh,ack,urg,ece,cwr", api.Rule{Act: 2, Proto: 6, Set: 255}},
		{"deny tcp flags !fin,!syn,!rst,!psh,!ack,!urg,!ece,!cwr", api.Rule{Act: 2, Proto: 6, Clear: 255}},
		{"deny tcp flags !fin,syn,!rst,psh,!ack,urg,!ece,cwr", api.Rule{Act: 2, Proto: 6, Set: 0xaa, Clear: 0x55}},
		{"deny tcp flags !cwr", api.Rule{Act: 2, Proto: 6, Clear: 128}},
		{"permit class 1 tcp on p2 vid 3 from not ::1,10.0.0.0/8 port 0,0-1,65535 to not ::1,10.0.0.0/8 port 0,0-1,65535 flags fin,!cwr pieces",
			api.Rule{Act: 1, Class: 1, Proto: 6, In: 3, Vid: 3, From: side, To: side, Set: 1, Clear: 128, Pieces: true}},
		{"permit class 1 ip6 icmp on p2 vid 3 type 3 pieces", api.Rule{Act: 1, Class: 1, Kind: 3, Proto: 1, In: 3, Vid: 3, Type: 4, Pieces: true}},
	}
	for _, x := range rows {
		prints(t, x.r, x.want)
		reads(t, x.want, x.r)
	}
}

// 16.3: what reads alike is written alike.
func TestPrintOfOtherWritings(t *testing.T) {
	for text, want := range map[string]string{
		" permit\tclass 0  any to any ":                   "permit any",
		"permit proto 17 from any":                        "permit udp",
		"permit proto 58 type 1":                          "permit icmp6 type 1",
		"permit ip4 proto 1":                              "permit ip4 icmp",
		"permit tcp pieces flags cwr , fin vid 1 on p0":   "permit tcp on p0 vid 1 flags fin,cwr pieces",
		"permit any to 1.2.3.4/32 from 2001:DB8:0::0/128": "permit any from 2001:db8:: to 1.2.3.4",
		"permit udp to any port 7-7 from any port 0-0":    "permit udp from any port 0 to any port 7",
	} {
		r, e, _ := rules.ParseRule(text)
		if e != api.OK {
			t.Errorf("ParseRule(%q): %d", text, e)
		}
		prints(t, r, want)
	}
}

// widest is a rule whose line has more than MaxLine bytes.
func widest() api.Rule {
	p := api.Prefix{IP: api.IP{V: 6}, Len: 127}
	for i := range p.IP.A {
		p.IP.A[i] = 0xfe
	}
	side := api.Side{Not: true, Nets: slices.Repeat([]api.Prefix{p}, 16), Ports: slices.Repeat([]api.Range{{Lo: 10000, Hi: 65535}}, 16)}
	return api.Rule{Act: api.APermit, Class: 7, Kind: api.PIp6, Proto: 6, In: 8, Vid: 4094, From: side, To: side, Set: 0xaa, Clear: 0x55, Pieces: true}
}

// 16.3, 16.6: a line above MaxLine bytes is written, but it is not read.
func TestPrintAboveMaxLine(t *testing.T) {
	r := widest()
	net := strings.TrimSuffix(strings.Repeat("fefe:", 8), ":") + "/127"
	side := "not " + strings.TrimSuffix(strings.Repeat(net+",", 16), ",") + " port " + strings.TrimSuffix(strings.Repeat("10000-65535,", 16), ",")
	want := "permit class 7 ip6 tcp on p7 vid 4094 from " + side + " to " + side + " flags !fin,syn,!rst,psh,!ack,urg,!ece,cwr pieces"
	prints(t, r, want)
	refuses(t, want, api.ErrLong, 1024)
	s := made(t, r, r)
	if l := s.Lines(); !slices.Equal(l, []string{want, want}) {
		t.Errorf("Lines() = %q", l)
	}
	if l := s.Rules(); !sameAll(l, []api.Rule{r, r}) {
		t.Errorf("Rules() = %+v", l)
	}
}

// 16.3: flags, each as it may be, against ParseRule.
func TestPrintFlags(t *testing.T) {
	for set := range 256 {
		for clear := range 256 {
			if set&clear == 0 {
				r := api.Rule{Act: 1, Proto: 6, Set: set, Clear: clear}
				reads(t, line(t, r), r)
			}
		}
	}
}

// 16.4: what is written is read as it was, and what is read is taken and written as it was.
func TestThereAndBack(t *testing.T) {
	d := dice{rand.New(rand.NewSource(164))}
	texts := map[string]api.Rule{}
	for range 20000 {
		r := d.rule()
		if e := rules.Check(r); e != api.OK {
			t.Fatalf("Check(%+v) = %d", r, e)
		}
		text := line(t, r)
		reads(t, text, r)
		if other, ok := texts[text]; ok && !same(r, other) {
			t.Fatalf("%q is two rules", text)
		}
		texts[text] = r
		if strings.Contains(text, " ,") || strings.Contains(text, ", ") || strings.Contains(text, "  ") || strings.TrimSpace(text) != text {
			t.Fatalf("%q is not canonical", text)
		}
	}
}

// 16.4: a line of just MaxLine bytes that PrintRule writes is read; one byte more is too many.
func TestWidestThatIsRead(t *testing.T) {
	r := widest()
	r.Vid, r.From.Ports, r.To.Ports = 409, nil, r.To.Ports[:1]
	for len(line(t, r)) > 1024 {
		r.To.Nets = r.To.Nets[1:]
	}
	for left := 1024 - len(line(t, r)); left > 1; left = 1024 - len(line(t, r)) {
		n := []int{2: 1, 3: 10, 4: 100, 5: 1000, 6: 10000}[min(left, 6)]
		r.To.Ports = append(r.To.Ports, api.Range{Lo: n, Hi: n})
	}
	if len(line(t, r)) == 1023 {
		r.Vid = 4094
	}
	text := line(t, r)
	if len(text) != 1024 {
		t.Fatalf("%d bytes", len(text))
	}
	reads(t, text, r)
	r.To.Ports = append(r.To.Ports, api.Range{})
	refuses(t, line(t, r), api.ErrLong, 1024)
}
