package route_test

import (
	"math/rand"
	"slices"
	"testing"

	"weir/api"
	"weir/route"
)

// A second reading of the chapter: a list of routes, gone through whole for every answer, bit by bit.

type model []api.Route

// bit is the n-th bit of an address.
func bit(a api.IP, n int) int { return int(a.A[n/8]>>(7-n%8)) & 1 }

func size(a api.IP) int {
	if a.V == 4 {
		return 32
	}
	return 128
}

// flipped is an address with its n-th bit turned over.
func flipped(a api.IP, n int) api.IP {
	a.A[n/8] ^= 128 >> (n % 8)
	return a
}

// cut is the prefix of an address with so many bits.
func cut(a api.IP, n int) api.Prefix {
	for i := n; i < size(a); i++ {
		if bit(a, i) == 1 {
			a = flipped(a, i)
		}
	}
	return api.Prefix{IP: a, Len: n}
}

// within is a route for each prefix of an address, by rising length.
func within(a api.IP) []api.Route {
	var l []api.Route
	for n := range size(a) + 1 {
		l = append(l, api.Route{Prefix: cut(a, n), Port: n % 8})
	}
	return l
}

func backwards(l []api.Route) []api.Route {
	l = slices.Clone(l)
	slices.Reverse(l)
	return l
}

func lies(a api.IP, p api.Prefix) bool {
	for n := range p.Len {
		if bit(a, n) != bit(p.IP, n) {
			return false
		}
	}
	return a.V == p.IP.V
}

func (m model) matches(a api.IP) []api.Route {
	var l []api.Route
	for n := 128; n >= 0; n-- {
		for _, r := range m {
			if r.Prefix.Len == n && lies(a, r.Prefix) {
				l = append(l, r)
			}
		}
	}
	return l
}

func (m model) place(p api.Prefix) int {
	return slices.IndexFunc(m, func(r api.Route) bool { return r.Prefix == p })
}

// all is the routes in the order in which All tells them: each bit is gone through, then the length.
func (m model) all() []api.Route {
	l := slices.Clone(m)
	slices.SortFunc(l, func(a, b api.Route) int {
		p, q := a.Prefix, b.Prefix
		if p.IP.V != q.IP.V {
			return p.IP.V - q.IP.V
		}
		for n := range 128 {
			if d := bit(p.IP, n) - bit(q.IP, n); d != 0 {
				return d
			}
		}
		return p.Len - q.Len
	})
	return l
}

// dice draws addresses of which many lie near one another.
type dice struct{ *rand.Rand }

func (d dice) address() api.IP {
	a := api.IP{V: 4, A: [16]byte{10, 20, 30, 40}}
	if d.Intn(2) == 0 {
		a = api.IP{V: 6, A: [16]byte{0: 0x20, 1: 1, 2: 0x0d, 3: 0xb8, 9: 7, 15: 1}}
	}
	for range d.Intn(3) {
		a = flipped(a, d.Intn(size(a)))
	}
	return a
}

func (d dice) prefix() api.Prefix {
	a := d.address()
	if d.Intn(2) == 0 {
		return cut(a, size(a)/8*d.Intn(9))
	}
	return cut(a, d.Intn(size(a)+1))
}

func (d dice) route() api.Route {
	r := api.Route{Prefix: d.prefix(), Port: d.Intn(8)}
	if a := d.address(); a.V == r.Prefix.IP.V && (a.A[0] == 0x20 || a.A[0] == 10) { // else it may be none of a station
		r.Via = a
	}
	return r
}

// like holds all that a table tells against the model, of some drawn addresses.
func like(t *testing.T, d dice, x *route.Table, m model) {
	t.Helper()
	holds(t, x, m.all()...)
	for range 10 {
		a := d.address()
		finds(t, x, a, m.matches(a)...)
	}
}

// 14.2 to 14.8: drawn turns of Add and Drop, held against the model.
func TestAgainstTheModel(t *testing.T) {
	d := dice{rand.New(rand.NewSource(14))}
	for range 200 {
		x, m := route.New(), model{}
		for range 40 {
			r := d.route()
			i := m.place(r.Prefix)
			if len(m) > 0 && d.Intn(4) == 0 {
				i = d.Intn(len(m))
				r = m[i]
				r.Port = d.Intn(8)
			}
			switch {
			case d.Intn(3) == 0:
				drops(t, x, r.Prefix, i >= 0)
				if i >= 0 {
					m = slices.Delete(m, i, i+1)
				}
			case i >= 0:
				adds(t, x, r, api.ErrKnown)
			default:
				adds(t, x, r, api.OK)
				m = append(m, r)
			}
			like(t, d, x, m)
		}
		if t.Failed() {
			return
		}
	}
}
