package route_test

import (
	"slices"
	"strconv"
	"strings"
	"testing"

	"weir/addr"
	"weir/api"
	"weir/route"
)

// ip is the address of a text; of none, none.
func ip(t *testing.T, s string) api.IP {
	t.Helper()
	if s == "" {
		return api.IP{}
	}
	x, e, _ := addr.ParseIP(s)
	if e != api.OK {
		t.Fatalf("%q is no address", s)
	}
	return x
}

// net is the values of a text such as 10.1.0.0/16, be they a prefix or not.
func net(t *testing.T, s string) api.Prefix {
	t.Helper()
	a, l, _ := strings.Cut(s, "/")
	n, err := strconv.Atoi(l)
	if err != nil {
		t.Fatalf("%q has no length", s)
	}
	return api.Prefix{IP: ip(t, a), Len: n}
}

// to is the route of a net, a port and a next station, or none.
func to(t *testing.T, s string, port int, via string) api.Route {
	t.Helper()
	return api.Route{Prefix: net(t, s), Port: port, Via: ip(t, via)}
}

// table is one with these routes.
func table(t *testing.T, l ...api.Route) *route.Table {
	t.Helper()
	x := route.New()
	for _, r := range l {
		adds(t, x, r, api.OK)
	}
	return x
}

func adds(t *testing.T, x *route.Table, r api.Route, want api.Errno) {
	t.Helper()
	if e := x.Add(r); e != want {
		t.Errorf("Add(%s) = %d, want %d", text(r), e, want)
	}
}

func drops(t *testing.T, x *route.Table, p api.Prefix, want bool) {
	t.Helper()
	if was := x.Drop(p); was != want {
		t.Errorf("Drop(%s) = %v", text(api.Route{Prefix: p}), was)
	}
}

// holds wants a table to tell these routes as all of its own, in this order.
func holds(t *testing.T, x *route.Table, want ...api.Route) {
	t.Helper()
	if l := slices.Collect(x.All()); !slices.Equal(l, want) {
		t.Errorf("All() = %s\nwant %s", texts(l), texts(want))
	}
	if n := x.Len(); n != len(want) {
		t.Errorf("Len() = %d, want %d", n, len(want))
	}
}

// finds wants these routes to match an address, and the first of them to be found.
func finds(t *testing.T, x *route.Table, a api.IP, want ...api.Route) {
	t.Helper()
	if l := x.Matches(a); !slices.Equal(l, want) {
		t.Errorf("Matches(%v) = %s\nwant %s", a, texts(l), texts(want))
	}
	var first api.Route
	if len(want) > 0 {
		first = want[0]
	}
	if r, ok := x.Find(a); r != first || ok != (len(want) > 0) {
		t.Errorf("Find(%v) = %s, %v\nwant %s", a, text(r), ok, text(first))
	}
}

// text tells a route, be it one or not.
func text(r api.Route) string {
	return ipText(r.Prefix.IP) + "/" + strconv.Itoa(r.Prefix.Len) + ">" + strconv.Itoa(r.Port) + ">" + ipText(r.Via)
}

func ipText(a api.IP) string {
	if s, e := addr.PrintIP(a); e == api.OK {
		return s
	}
	if a == (api.IP{}) {
		return "none"
	}
	return "version " + strconv.Itoa(a.V) + strings.ReplaceAll(string(a.A[:]), "\x00", ".")
}

func texts(l []api.Route) string {
	var s []string
	for _, r := range l {
		s = append(s, text(r))
	}
	return strings.Join(s, " ")
}

// full is as many routes as a table holds, of both versions, none within another; in the order in which All tells them.
func full() []api.Route {
	var l []api.Route
	for i := range 128 {
		l = append(l, api.Route{Prefix: api.Prefix{IP: api.IP{V: 4, A: [16]byte{10, byte(i)}}, Len: 16}, Port: i % 8})
	}
	for i := range 128 {
		l = append(l, api.Route{Prefix: api.Prefix{IP: api.IP{V: 6, A: [16]byte{1, byte(i)}}, Len: 16}, Port: i % 8})
	}
	return l
}
