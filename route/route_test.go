package route_test

import (
	"math"
	"testing"

	"weir/api"
	"weir/route"
)

// 14.1 to 14.7: the examples.
func TestExamples(t *testing.T) {
	x := route.New()
	first, second, third := to(t, "0.0.0.0/0", 0, "192.0.2.1"), to(t, "10.0.0.0/8", 1, ""), to(t, "10.1.0.0/16", 2, "10.0.0.9")
	adds(t, x, first, api.OK)
	adds(t, x, second, api.OK)
	adds(t, x, third, api.OK)
	adds(t, x, to(t, "10.1.0.0/16", 3, ""), api.ErrKnown)
	adds(t, x, to(t, "10.1.0.1/16", 9, ""), api.ErrPrefix)
	adds(t, x, to(t, "2001:db8::/32", 9, ""), api.ErrPort)
	adds(t, x, to(t, "2001:db8::/32", 1, "10.0.0.1"), api.ErrVia)
	adds(t, x, to(t, "2001:db8::/32", 1, "ff02::1"), api.ErrVia)
	finds(t, x, ip(t, "10.1.2.3"), third, second, first)
	finds(t, x, ip(t, "10.2.2.3"), second, first)
	finds(t, x, ip(t, "8.8.8.8"), first)
	finds(t, x, ip(t, "::1"))
	finds(t, x, api.IP{})
	holds(t, x, first, second, third)
	drops(t, x, third.Prefix, true)
	drops(t, x, third.Prefix, false)
	finds(t, x, ip(t, "10.1.2.3"), second, first)
	holds(t, x, first, second)
}

// 14.1
func TestNew(t *testing.T) {
	x, y := route.New(), route.New()
	if x == nil || y == nil {
		t.Fatal("New() = nil")
	}
	r := to(t, "10.0.0.0/8", 1, "")
	holds(t, x)
	adds(t, x, r, api.OK)
	holds(t, y)
	finds(t, y, ip(t, "10.0.0.1"))
	drops(t, y, r.Prefix, false)
	holds(t, x, r)
	adds(t, y, r, api.OK)
	drops(t, y, r.Prefix, true)
	holds(t, x, r)
}

// 14.2: each end of what a route may be.
func TestAdded(t *testing.T) {
	for _, r := range []api.Route{
		to(t, "0.0.0.0/0", 0, ""), to(t, "0.0.0.0/32", 7, ""), to(t, "255.255.255.255/32", 0, ""), to(t, "128.0.0.0/1", 3, ""), to(t, "224.0.0.0/4", 1, ""),
		to(t, "::/0", 0, ""), to(t, "::/128", 7, ""), to(t, "ffff:ffff:ffff:ffff:ffff:ffff:ffff:ffff/128", 0, ""), to(t, "8000::/1", 3, ""), to(t, "ff00::/8", 1, ""), to(t, "2001:db8::/33", 1, ""),
		to(t, "10.0.0.0/8", 0, "10.0.0.1"), to(t, "10.0.0.0/8", 0, "192.0.2.1"), to(t, "10.0.0.0/8", 0, "169.254.0.1"), to(t, "10.0.0.0/8", 0, "1.0.0.0"), to(t, "10.0.0.0/8", 0, "223.255.255.255"), to(t, "10.0.0.0/8", 0, "128.0.0.1"),
		to(t, "2001:db8::/32", 0, "2001:db8::1"), to(t, "2001:db8::/32", 0, "fe80::1"), to(t, "2001:db8::/32", 0, "febf::1"), to(t, "2001:db8::/32", 0, "fec0::1"), to(t, "2001:db8::/32", 0, "100::"),
	} {
		holds(t, table(t, r), r)
	}
}

// wrong is routes that may not be, each for the first of the reasons, beside some that come behind it.
func wrong(t *testing.T) map[api.Errno][]api.Route {
	port, via := to(t, "10.0.0.0/8", 0, ""), to(t, "10.0.0.0/8", 0, "")
	port.Port, via.Via = math.MinInt, api.IP{A: [16]byte{1}}
	none := func(p api.Prefix) api.Route { return api.Route{Prefix: p} }
	return map[api.Errno][]api.Route{
		api.ErrPrefix: {
			{}, to(t, "10.1.0.1/16", 1, ""), to(t, "10.1.0.0/15", 1, ""), to(t, "128.0.0.0/0", 1, ""), to(t, "10.0.0.1/31", 1, ""), to(t, "10.0.0.0/33", 1, ""), to(t, "10.0.0.0/-1", 1, ""), to(t, "10.0.0.0/128", 1, ""),
			to(t, "2001:db8::1/32", 1, ""), to(t, "2001:db8::/28", 9, ""), to(t, "::1/127", 1, ""), to(t, "::/129", 1, ""), to(t, "::/-1", 1, "10.0.0.1"), to(t, "10.1.0.1/16", -1, "::1"),
			none(api.Prefix{IP: api.IP{V: 4, A: [16]byte{0: 10, 4: 1}}, Len: 8}), none(api.Prefix{IP: api.IP{V: 5}}), none(api.Prefix{IP: api.IP{A: [16]byte{1}}}), none(api.Prefix{IP: api.IP{V: -4}}),
			none(api.Prefix{IP: api.IP{V: 4}, Len: math.MaxInt}), none(api.Prefix{IP: api.IP{V: 6}, Len: math.MinInt}), none(api.Prefix{Len: 8}),
		},
		api.ErrPort: {
			port, to(t, "10.0.0.0/8", 8, ""), to(t, "10.0.0.0/8", -1, ""), to(t, "10.0.0.0/8", 8, "::1"), to(t, "2001:db8::/32", 8, ""), to(t, "2001:db8::/32", math.MaxInt, "10.0.0.1"),
		},
		api.ErrVia: {
			via, to(t, "10.0.0.0/8", 0, "2001:db8::1"), to(t, "10.0.0.0/8", 0, "fe80::1"), to(t, "2001:db8::/32", 0, "10.0.0.1"), to(t, "2001:db8::/32", 0, "169.254.0.1"),
			to(t, "10.0.0.0/8", 0, "0.0.0.0"), to(t, "10.0.0.0/8", 0, "127.0.0.1"), to(t, "10.0.0.0/8", 0, "224.0.0.1"), to(t, "10.0.0.0/8", 0, "255.255.255.255"), to(t, "10.0.0.0/8", 0, "0.0.0.1"), to(t, "10.0.0.0/8", 0, "240.0.0.1"),
			to(t, "2001:db8::/32", 0, "::"), to(t, "2001:db8::/32", 0, "::1"), to(t, "2001:db8::/32", 0, "ff02::1"), to(t, "2001:db8::/32", 0, "::ffff:10.0.0.1"),
			{Prefix: net(t, "10.0.0.0/8"), Via: api.IP{V: 4, A: [16]byte{10, 0, 0, 1, 1}}}, {Prefix: net(t, "10.0.0.0/8"), Via: api.IP{V: 5, A: [16]byte{10}}}, {Prefix: net(t, "::/0"), Via: api.IP{V: 16, A: [16]byte{0x20, 1}}},
		},
	}
}

// 14.2: what is no route is refused, and nothing is changed: in a table without a route, in one that knows the prefix, and in one that is full.
func TestRefused(t *testing.T) {
	some := []api.Route{to(t, "10.0.0.0/8", 1, "10.0.0.9"), to(t, "2001:db8::/32", 2, "")}
	for want, l := range wrong(t) {
		for _, r := range l {
			for _, held := range [][]api.Route{nil, some, full()} {
				x := table(t, held...)
				adds(t, x, r, want)
				holds(t, x, held...)
			}
		}
	}
}

// 14.2: a known prefix is refused whatever else its route says, and what was there stays; one with another length is another.
func TestKnown(t *testing.T) {
	a, b := to(t, "10.0.0.0/8", 1, "10.0.0.9"), to(t, "2001:db8::/32", 2, "")
	x := table(t, a, b)
	adds(t, x, a, api.ErrKnown)
	adds(t, x, to(t, "10.0.0.0/8", 3, ""), api.ErrKnown)
	adds(t, x, to(t, "2001:db8::/32", 7, "fe80::1"), api.ErrKnown)
	holds(t, x, a, b)
	c, d := to(t, "10.0.0.0/9", 1, "10.0.0.9"), to(t, "10.0.0.0/7", 1, "10.0.0.9")
	adds(t, x, c, api.OK)
	adds(t, x, d, api.OK)
	holds(t, x, d, a, c, b)
}

// 14.2: the nets of the two versions with the same bytes and length are not one.
func TestVersionsApart(t *testing.T) {
	a, b := to(t, "0.0.0.0/0", 1, ""), to(t, "::/0", 2, "")
	c, d := to(t, "32.1.0.0/16", 3, ""), to(t, "2001::/16", 4, "")
	x := table(t, d, b, c, a)
	holds(t, x, a, c, b, d)
	finds(t, x, ip(t, "32.1.0.0"), c, a)
	finds(t, x, ip(t, "2001::"), d, b)
	drops(t, x, a.Prefix, true)
	drops(t, x, d.Prefix, true)
	holds(t, x, c, b)
}

// 14.2, 14.3, 14.7: the most routes that may be, and one more.
func TestFull(t *testing.T) {
	x, l := route.New(), full()
	if len(l) != api.MaxRoutes {
		t.Fatalf("%d routes", len(l))
	}
	for i, r := range l {
		if x.Len() != i {
			t.Errorf("Len() = %d, want %d", x.Len(), i)
		}
		adds(t, x, r, api.OK)
	}
	more := to(t, "::/0", 0, "")
	adds(t, x, more, api.ErrRoutes)
	adds(t, x, l[0], api.ErrKnown)
	adds(t, x, l[255], api.ErrKnown)
	holds(t, x, l...)
	finds(t, x, ip(t, "9::"))
	drops(t, x, l[255].Prefix, true)
	adds(t, x, more, api.OK)
	adds(t, x, l[255], api.ErrRoutes)
	drops(t, x, l[255].Prefix, false)
	if x.Len() != 256 {
		t.Errorf("Len() = %d", x.Len())
	}
	finds(t, x, l[255].Prefix.IP, more)
}

// 14.3: the prefix itself is dropped, not what lies in it or has it within; what is no prefix is none.
func TestDrop(t *testing.T) {
	a, b, c := to(t, "0.0.0.0/0", 1, ""), to(t, "10.0.0.0/8", 2, "10.0.0.1"), to(t, "2001:db8::/32", 3, "")
	x := table(t, a, b, c)
	for _, s := range []string{"10.0.0.0/7", "10.0.0.0/9", "10.0.0.1/8", "10.1.0.0/16", "8.0.0.0/6", "0.0.0.0/1", "::/0", "2001:db8::/31", "2001:db8::/33", "10.0.0.0/-8", "10.0.0.0/33"} {
		drops(t, x, net(t, s), false)
	}
	for _, p := range []api.Prefix{{}, {IP: api.IP{V: 4, A: [16]byte{0: 10, 15: 1}}, Len: 8}, {IP: api.IP{V: 6, A: [16]byte{10}}, Len: 8}, {IP: api.IP{V: 5}}, {Len: math.MinInt}} {
		drops(t, x, p, false)
	}
	holds(t, x, a, b, c)
	drops(t, x, b.Prefix, true)
	holds(t, x, a, c)
	adds(t, x, b, api.OK)
	holds(t, x, a, b, c)
	for _, r := range []api.Route{a, b, c} {
		drops(t, x, r.Prefix, true)
		drops(t, x, r.Prefix, false)
	}
	holds(t, x)
}

// 14.4, 14.5: what is no address lies in no prefix.
func TestNoAddress(t *testing.T) {
	x := table(t, to(t, "0.0.0.0/0", 1, ""), to(t, "::/0", 2, ""), to(t, "10.0.0.0/8", 3, ""))
	for _, a := range []api.IP{{}, {A: [16]byte{10}}, {V: 4, A: [16]byte{0: 10, 4: 1}}, {V: 4, A: [16]byte{15: 1}}, {V: 5, A: [16]byte{10}}, {V: -4}, {V: -6}, {V: 32}, {V: math.MaxInt}, {V: math.MinInt}} {
		finds(t, x, a)
	}
}

// 14.4, 14.5: a prefix of each length, of both versions: an address that parts from it at a bit has as many matches as bits are ahead of that.
func TestEveryLength(t *testing.T) {
	for _, whole := range []api.IP{ip(t, "10.85.170.201"), ip(t, "2001:db8:5555:aaaa:c9::ffff:1"), ip(t, "255.255.255.255"), ip(t, "::")} {
		all := within(whole)
		x := table(t, all...)
		longest := len(all) - 1
		finds(t, x, whole, backwards(all)...)
		for n := range longest {
			finds(t, x, flipped(whole, n), backwards(all[:n+1])...)
		}
		for n := longest; n >= 0; n-- {
			finds(t, x, whole, backwards(all[:n+1])...)
			drops(t, x, all[n].Prefix, true)
		}
		finds(t, x, whole)
	}
}

// 14.4, 14.5: lengths between which many are missing; the gaps are gone over.
func TestGaps(t *testing.T) {
	a, b, c := to(t, "2000::/3", 1, ""), to(t, "2001:db8::/64", 2, "fe80::1"), to(t, "2001:db8::1/128", 3, "")
	x := table(t, a, b, c)
	finds(t, x, ip(t, "2001:db8::1"), c, b, a)
	finds(t, x, ip(t, "2001:db8::2"), b, a)
	finds(t, x, ip(t, "2001:db8:0:1::1"), a)
	finds(t, x, ip(t, "3fff::"), a)
	finds(t, x, ip(t, "4000::"))
	finds(t, x, ip(t, "1fff:ffff::"))
	drops(t, x, b.Prefix, true)
	finds(t, x, ip(t, "2001:db8::1"), c, a)
}
