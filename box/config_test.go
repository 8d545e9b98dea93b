package box_test

import (
	"bytes"
	"math"
	"strings"
	"testing"

	"weir/api"
	"weir/box"
)

type turn = func(*api.Config)

// takes wants a configuration to be one.
func takes(t *testing.T, c api.Config) {
	t.Helper()
	x, e := box.New(c)
	if k := box.Check(c); x == nil || e != api.OK || k != api.OK {
		t.Errorf("New = %v, %d, Check = %d of %+v", x, e, k, c)
	}
}

// refuses wants a configuration to be none.
func refuses(t *testing.T, c api.Config, want api.Errno) {
	t.Helper()
	x, e := box.New(c)
	if k := box.Check(c); x != nil || e != want || k != want {
		t.Errorf("New = %v, %d, Check = %d of %+v, want %d", x, e, k, c, want)
	}
}

// manyPorts are n ports, each with a link of its own.
func manyPorts(n int) turn {
	return func(c *api.Config) {
		c.Ports, c.Routes = nil, nil
		for i := range n {
			p := portConfig(api.Mac{2, 0, 0, 0, byte(i), 1}, 1500, "10.0.0.1/24", "2001:db8::1/64")
			p.Net4.IP.A[2], p.Net6.IP.A[5] = byte(i), byte(i)
			c.Ports = append(c.Ports, p)
		}
	}
}

// 19.1: one to eight ports.
func TestHowManyPorts(t *testing.T) {
	for n := 1; n <= 8; n++ {
		takes(t, with(plain(), manyPorts(n)))
	}
	refuses(t, with(plain(), manyPorts(0)), api.ErrConfig)
	refuses(t, with(plain(), manyPorts(9)), api.ErrConfig)
}

// 19.1: what each number of a port may be, at both ends and past them.
func TestPortBounds(t *testing.T) {
	for _, b := range []struct {
		set       func(p *api.PortConfig, n int)
		low, high int
		want      api.Errno
	}{
		{func(p *api.PortConfig, n int) { p.MTU = n }, 1280, 9000, api.ErrConfig},
		{func(p *api.PortConfig, n int) { p.Vid = n }, 0, 4094, api.ErrConfig},
		{func(p *api.PortConfig, n int) { p.Rx = n }, 1, 4096, api.ErrArg},
		{func(p *api.PortConfig, n int) { p.Tx = n }, 1, 4096, api.ErrArg},
		{func(p *api.PortConfig, n int) { p.Pool = n }, 1, 8192, api.ErrArg},
		{func(p *api.PortConfig, n int) { p.Size = n }, 64, 65535, api.ErrArg},
		{func(p *api.PortConfig, n int) { p.Net4.Len = n }, 1, 32, api.ErrConfig},
		{func(p *api.PortConfig, n int) { p.Net6.Len = n }, 1, 128, api.ErrConfig},
	} {
		for at := range 3 {
			of := func(n int) api.Config {
				return with(plain(), func(c *api.Config) { b.set(&c.Ports[at], n) })
			}
			takes(t, of(b.low))
			takes(t, of(b.high))
			refuses(t, of(b.low-1), b.want)
			refuses(t, of(b.high+1), b.want)
			refuses(t, of(math.MinInt), b.want)
			refuses(t, of(math.MaxInt), b.want)
		}
	}
}

// 19.1: the link address of a port.
func TestPortMac(t *testing.T) {
	for at := range 3 {
		mac := func(m api.Mac) api.Config {
			return with(plain(), func(c *api.Config) { c.Ports[at].Mac = m })
		}
		takes(t, mac(api.Mac{0, 0, 0, 0, 0, 1}))
		takes(t, mac(api.Mac{0xfe, 0xff, 0xff, 0xff, 0xff, 0xff}))
		refuses(t, mac(api.Mac{}), api.ErrConfig)
		refuses(t, mac(api.Mac{1}), api.ErrConfig)
		refuses(t, mac(all), api.ErrConfig)
	}
	refuses(t, with(plain(), func(c *api.Config) { c.Ports[2].Mac = port0 }), api.ErrConfig)
	refuses(t, with(plain(), func(c *api.Config) { c.Ports[2].Mac = port1 }), api.ErrConfig)
}

// 19.1: own addresses: none, or one of its version that is one station's, and no earlier port's.
func TestOwnAddresses(t *testing.T) {
	for at := range 3 {
		four := func(p api.Prefix) api.Config {
			return with(plain(), func(c *api.Config) { c.Routes, c.Ports[at].Net4 = nil, p })
		}
		six := func(p api.Prefix) api.Config {
			return with(plain(), func(c *api.Config) { c.Routes, c.Ports[at].Net6 = nil, p })
		}
		takes(t, four(api.Prefix{}))
		takes(t, six(api.Prefix{}))
		for _, text := range []string{"172.16.0.1/1", "172.16.0.0/32", "172.16.255.255/16", "223.255.255.255/8"} {
			takes(t, four(net(text)))
			refuses(t, six(net(text)), api.ErrConfig)
		}
		for _, text := range []string{"2002::1/1", "2002::/128", "fd00::1/64"} {
			takes(t, six(net(text)))
			refuses(t, four(net(text)), api.ErrConfig)
		}
		for _, text := range []string{"0.0.0.0/8", "127.0.0.1/8", "224.0.0.1/4", "169.254.1.1/16", "255.255.255.255/32", "0.0.0.1/8", "240.0.0.1/4"} {
			refuses(t, four(net(text)), api.ErrConfig)
		}
		for _, text := range []string{"::/64", "::1/128", "ff02::1/16", "fe80::1/64", "::ffff:10.0.0.1/96"} {
			refuses(t, six(net(text)), api.ErrConfig)
		}
		refuses(t, four(api.Prefix{Len: 8}), api.ErrConfig)
		refuses(t, six(api.Prefix{Len: 8}), api.ErrConfig)
		refuses(t, four(api.Prefix{IP: api.IP{V: 4, A: [16]byte{172, 16, 0, 1, 1}}, Len: 8}), api.ErrConfig)
		refuses(t, four(api.Prefix{IP: api.IP{V: 5, A: [16]byte{172, 16, 0, 1}}, Len: 8}), api.ErrConfig)
		refuses(t, six(api.Prefix{IP: api.IP{V: 0, A: [16]byte{0x20, 1}}, Len: 8}), api.ErrConfig)
	}
	for _, later := range []int{1, 2} {
		refuses(t, with(plain(), func(c *api.Config) { c.Ports[later].Net4 = net("10.0.0.1/30") }), api.ErrConfig)
		refuses(t, with(plain(), func(c *api.Config) { c.Ports[later].Net6 = net("2001:db8::1/96") }), api.ErrConfig)
	}
}

// 19.1: the ports are asked one after the other, each for its link, its rings, its addresses.
func TestOrderOfPorts(t *testing.T) {
	link := func(i int) turn { return func(c *api.Config) { c.Ports[i].Mac = all } }
	rings := func(i int) turn { return func(c *api.Config) { c.Ports[i].Rx = 0 } }
	nets := func(i int) turn { return func(c *api.Config) { c.Ports[i].Net6.Len = 129 } }
	refuses(t, with(plain(), link(0), rings(0)), api.ErrConfig)
	refuses(t, with(plain(), rings(0), nets(0)), api.ErrArg)
	refuses(t, with(plain(), nets(0), rings(1)), api.ErrConfig)
	refuses(t, with(plain(), rings(0), link(1)), api.ErrArg)
}

// 19.1: the link routes come first, then those of the configuration; each must have a port with an address of its version.
func TestRoutes(t *testing.T) {
	routes := func(l ...api.Route) turn { return func(c *api.Config) { c.Routes = l } }
	lacks := func(c *api.Config) { c.Ports[1].Net4, c.Ports[2].Net6 = api.Prefix{}, api.Prefix{} }
	for _, r := range []api.Route{
		{Prefix: net("0.0.0.0/0"), Port: 0, Via: ip(a)}, {Prefix: net("::/0"), Port: 2}, {Prefix: net("10.0.0.0/25"), Port: 1},
		{Prefix: net("10.0.0.0/23"), Port: 2, Via: ip("169.254.0.1")}, {Prefix: net("2001:db8::/65"), Port: 1, Via: ip(via6)},
	} {
		takes(t, with(plain(), routes(r)))
		refuses(t, with(plain(), routes(r, r)), api.ErrKnown)
		r.Prefix.IP.A[15], r.Prefix.IP.A[3] = 1, 1
		refuses(t, with(plain(), routes(r)), api.ErrPrefix)
	}
	for _, port := range []int{-1, 3, 7, 8, math.MaxInt} {
		refuses(t, with(plain(), routes(api.Route{Prefix: net("0.0.0.0/0"), Port: port})), api.ErrPort)
		refuses(t, with(plain(), routes(api.Route{Port: port})), api.ErrPort)
	}
	refuses(t, with(plain(), lacks, routes(api.Route{Prefix: net("0.0.0.0/0"), Port: 1})), api.ErrConfig)
	refuses(t, with(plain(), lacks, routes(api.Route{Prefix: net("::/0"), Port: 2})), api.ErrConfig)
	takes(t, with(plain(), lacks, routes(api.Route{Prefix: net("0.0.0.0/0"), Port: 2}, api.Route{Prefix: net("::/0"), Port: 1})))
	refuses(t, with(plain(), lacks, routes(api.Route{Prefix: net("10.0.0.1/8"), Port: 1})), api.ErrConfig)
	for _, v := range []int{0, 5, -4} {
		refuses(t, with(plain(), routes(api.Route{Prefix: api.Prefix{IP: api.IP{V: v}}})), api.ErrConfig)
		refuses(t, with(plain(), lacks, routes(api.Route{Prefix: api.Prefix{IP: api.IP{V: v}}, Port: 1})), api.ErrConfig)
	}
	refuses(t, with(plain(), routes(api.Route{Prefix: net("0.0.0.0/0"), Via: ip(via6)})), api.ErrVia)
	refuses(t, with(plain(), routes(api.Route{Prefix: net("10.0.1.0/24"), Port: 2})), api.ErrKnown)
	refuses(t, with(plain(), routes(api.Route{Prefix: net("2001:db8:1::/64")})), api.ErrKnown)
	refuses(t, with(plain(), func(c *api.Config) { c.Ports[1].Net4 = net("10.0.0.9/24") }, routes(api.Route{Port: 9})), api.ErrKnown)
	refuses(t, with(plain(), func(c *api.Config) { c.Ports[2].Net6 = net("2001:db8::9/64") }, routes(api.Route{Port: 9})), api.ErrKnown)
	takes(t, with(plain(), func(c *api.Config) { c.Ports[1].Net4 = net("10.0.0.9/25") }))
}

// 19.1: link routes count among the 256.
func TestHowManyRoutes(t *testing.T) {
	many := func(n int) turn {
		return func(c *api.Config) {
			c.Routes = nil
			for i := range n {
				c.Routes = append(c.Routes, api.Route{Prefix: api.Prefix{IP: api.IP{V: 4, A: [16]byte{172, byte(i >> 8), byte(i)}}, Len: 24}})
			}
		}
	}
	takes(t, with(plain(), many(250)))
	refuses(t, with(plain(), many(251)), api.ErrRoutes)
	bare := func(c *api.Config) { c.Ports = c.Ports[:1]; c.Ports[0].Net6 = api.Prefix{} }
	takes(t, with(plain(), bare, many(255)))
	refuses(t, with(plain(), bare, many(256)), api.ErrRoutes)
}

// 19.1: the parts below have their own errors.
func TestPartsRefuse(t *testing.T) {
	rules := func(l ...string) turn { return func(c *api.Config) { c.Rules = l } }
	takes(t, with(plain(), rules()))
	takes(t, with(plain(), rules("# nothing", "", "permit any")))
	refuses(t, with(plain(), rules("permit any", "permit")), api.ErrRuleEnd)
	refuses(t, with(plain(), rules("allow any")), api.ErrWord)
	refuses(t, with(plain(), rules(strings.Split(strings.Repeat("deny any\n", 257), "\n")...)), api.ErrRules)
	for _, n := range []api.NeighConfig{{}, {Max: 1025, Line: 1, Every: 1, Tries: 1, Fresh: 1}, {Max: 1, Line: 65, Every: 1, Tries: 1, Fresh: 1}} {
		refuses(t, with(plain(), func(c *api.Config) { c.Neigh = n }), api.ErrNeigh)
	}
	for _, n := range [][2]int{{0, 1}, {257, 1}, {1, 0}, {1, 1<<20 + 1}} {
		refuses(t, with(plain(), func(c *api.Config) { c.Contexts, c.Ticks = n[0], n[1] }), api.ErrArg)
	}
	takes(t, with(plain(), func(c *api.Config) { c.Contexts, c.Ticks = 256, 1<<20 }))
	refuses(t, with(plain(), func(c *api.Config) { c.Classes = nil }), api.ErrQueue)
	refuses(t, with(plain(), func(c *api.Config) { c.Classes = []api.Class{{Quantum: 63, Items: 1, Bytes: 1}} }), api.ErrQueue)
}

// 19.1: flows are tracked, or they are not.
func TestFlowsConfigured(t *testing.T) {
	takes(t, natted())
	for _, nat := range []int{0, 2, -2, 3} {
		refuses(t, with(plain(), func(c *api.Config) { c.Nat = nat }), api.ErrConfig)
	}
	for _, set := range []turn{
		func(c *api.Config) { c.Flow.Outside = ip(outside) }, func(c *api.Config) { c.Flow.Lo = 1 }, func(c *api.Config) { c.Flow.Hi = 1 },
		func(c *api.Config) { c.Flow.Syn = 1 }, func(c *api.Config) { c.Flow.Tcp = 1 }, func(c *api.Config) { c.Flow.Fin = 1 },
		func(c *api.Config) { c.Flow.Udp = 1 }, func(c *api.Config) { c.Flow.Icmp = -1 },
	} {
		refuses(t, with(plain(), set), api.ErrConfig)
	}
	refuses(t, with(natted(), func(c *api.Config) { c.Flow.Max = 0 }), api.ErrConfig)
	for _, nat := range []int{-1, -2, 3, 8, math.MaxInt} {
		refuses(t, with(natted(), func(c *api.Config) { c.Nat = nat }), api.ErrConfig)
	}
	for nat := range 3 {
		takes(t, with(natted(), func(c *api.Config) { c.Nat = nat }))
		refuses(t, with(natted(), func(c *api.Config) { c.Nat, c.Routes, c.Ports[nat].Net4 = nat, nil, api.Prefix{} }), api.ErrConfig)
	}
	for _, text := range []string{own0, own1, own2} {
		refuses(t, with(natted(), func(c *api.Config) { c.Flow.Outside = ip(text) }), api.ErrConfig)
	}
	takes(t, with(natted(), func(c *api.Config) { c.Flow.Outside = ip(a) }))
	takes(t, with(natted(), func(c *api.Config) { c.Flow.Outside = ip("169.254.0.1") }))
	for _, set := range []turn{
		func(c *api.Config) { c.Flow.Outside = ip(own06) }, func(c *api.Config) { c.Flow.Lo = 0 }, func(c *api.Config) { c.Flow.Max = -1 },
		func(c *api.Config) { c.Flow.Max = 4097 }, func(c *api.Config) { c.Flow.Udp = 0 },
	} {
		refuses(t, with(natted(), set), api.ErrFlowConfig)
		refuses(t, with(natted(), set, func(c *api.Config) { c.Nat = -1 }), api.ErrFlowConfig)
	}
}

// 19.1: of several faults the first by the order of the parts is told.
func TestOrderOfParts(t *testing.T) {
	faults := []struct {
		set  turn
		want api.Errno
	}{
		{func(c *api.Config) { c.Ports[2].Size = 63 }, api.ErrArg},
		{func(c *api.Config) { c.Routes = append(c.Routes, api.Route{Port: 9}) }, api.ErrPort},
		{func(c *api.Config) { c.Rules = []string{"deny"} }, api.ErrRuleEnd},
		{func(c *api.Config) { c.Neigh.Tries = 17 }, api.ErrNeigh},
		{func(c *api.Config) { c.Contexts = 0 }, api.ErrArg},
		{func(c *api.Config) { c.Flow.Lo = 0 }, api.ErrFlowConfig},
		{func(c *api.Config) { c.Nat = 5 }, api.ErrConfig},
		{func(c *api.Config) { c.Classes = nil }, api.ErrQueue},
	}
	for i := range faults {
		c := natted()
		for _, f := range faults[i:] {
			f.set(&c)
		}
		refuses(t, c, faults[i].want)
	}
	refuses(t, with(plain(), func(c *api.Config) { c.Ports = nil; c.Rules = []string{"deny"} }), api.ErrConfig)
	refuses(t, with(plain(), func(c *api.Config) { c.Ports = append(c.Ports, make([]api.PortConfig, 9)...); c.Ports[0].Rx = 0 }), api.ErrConfig)
}

// 19.2: a new box has nothing anywhere.
func TestNewBox(t *testing.T) {
	for _, c := range []api.Config{plain(), natted()} {
		x := made(t, c)
		x.keeps(api.Kept{})
		x.counts(0, 0, 0, 0)
		x.dropped()
		x.knows()
		x.quiet()
		if l := x.Flows(); len(l) > 0 {
			t.Errorf("flows are %v", l)
		}
		for p := range 3 {
			if e := x.Arrive(p, nil); e != api.ErrRxFull {
				t.Errorf("Arrive(%d) = %d", p, e)
			}
		}
	}
}

// 19.2, 19.20: what the configuration holds is copied; it is not changed.
func TestConfigIsCopied(t *testing.T) {
	c, kept := plain(), plain()
	c.Classes = append(make([]api.Class, 0, 8), c.Classes...)
	x := made(t, c)
	clear(c.Ports)
	clear(c.Routes)
	clear(c.Rules)
	clear(c.Classes)
	y := made(t, kept)
	for _, z := range []*bench{x, y} {
		z.meets(0, port0, hostA, a, own0)
		z.hears(0, framed(port0, hostA, udp(a, far, 9, 100)))
		z.tells(2, arp(all, port2, 1, port2, own2, noMac, via))
		z.hears(2, arp(port2, gateway, 2, gateway, via, port2, own2))
		z.tells(2, framed(gateway, port2, hop(udp(a, far, 9, 100))))
		z.dropped()
	}
}

// 19.20: New and Check change nothing of what they are given, nor the spare room behind it.
func TestConfigIsNotChanged(t *testing.T) {
	c := natted()
	c.Rules = append(make([]string, 0, 4), "permit any", "# x")
	c.Rules[:4][3] = "spare"
	c.Ports = append(make([]api.PortConfig, 0, 8), c.Ports...)
	c.Ports[:8][7].MTU = 77
	c.Routes = append(make([]api.Route, 0, 8), c.Routes...)
	c.Routes[:8][7].Port = 77
	c.Classes = append(make([]api.Class, 0, 8), c.Classes...)
	c.Classes[:8][7].Items = 77
	takes(t, c)
	k := natted()
	if c.Rules[0] != "permit any" || c.Rules[1] != "# x" || c.Rules[:4][3] != "spare" || c.Ports[:8][7].MTU != 77 || c.Routes[:8][7].Port != 77 || c.Classes[:8][7].Items != 77 {
		t.Error("the configuration was changed")
	}
	for i := range k.Ports {
		if c.Ports[i] != k.Ports[i] {
			t.Error("a port was changed")
		}
	}
	for i := range k.Routes {
		if c.Routes[i] != k.Routes[i] {
			t.Error("a route was changed")
		}
	}
	if c.Classes[0] != k.Classes[0] || c.Flow != k.Flow || c.Neigh != k.Neigh {
		t.Error("a number was changed")
	}
	frame := framed(port0, hostA, udp(a, b, 9, 100))
	room := append(append(make([]byte, 0, 3000), frame...), 1, 2, 3)
	x := made(t, c)
	x.Refill(0, 1)
	if e := x.Arrive(0, room[:len(frame)]); e != api.OK {
		t.Fatal(e)
	}
	clear(room)
	x.Poll(1)
	x.hears(1, arp(port1, hostB, 2, hostB, b, port1, own1))
	x.Drain(1)
	x.tells(1, framed(hostB, port1, hop(udp(a, b, 9, 100))))
	if !bytes.Equal(room, make([]byte, len(room))) {
		t.Error("what was handed in was written to")
	}
}
