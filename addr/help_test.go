package addr_test

import (
	"math"
	"math/rand"
	"net/netip"
	"testing"

	"weir/addr"
	"weir/api"
)

func four(a, b, c, d byte) api.IP { return api.IP{V: 4, A: [16]byte{a, b, c, d}} }

// six is an address of version 6 of its first groups; the others are zero.
func six(groups ...int) api.IP {
	ip := api.IP{V: 6}
	for i, g := range groups {
		ip.A[2*i], ip.A[2*i+1] = byte(g>>8), byte(g)
	}
	return ip
}

// ip is the address of a text, by the standard library: so that the tests of what an address is do not hang on ParseIP.
func ip(s string) api.IP { return known(netip.MustParseAddr(s)) }

func known(a netip.Addr) api.IP {
	if a.Is4() {
		b := a.As4()
		return four(b[0], b[1], b[2], b[3])
	}
	return api.IP{V: 6, A: a.As16()}
}

// lib is the standard library's value of an address.
func lib(ip api.IP) netip.Addr {
	if ip.V == 4 {
		return netip.AddrFrom4([4]byte(ip.A[:4]))
	}
	return netip.AddrFrom16(ip.A)
}

func prefix(ip api.IP, n int) api.Prefix { return api.Prefix{IP: ip, Len: n} }

// versions are those of no address.
var versions = []int{math.MinInt, -6, -4, -1, 0, 1, 2, 3, 5, 7, 8, 46, 64, 256, 260, 262, 1<<32 + 4, 1<<32 + 6, math.MaxInt}

// noAddresses are values that are no address.
func noAddresses() []api.IP {
	var list []api.IP
	for _, v := range versions {
		list = append(list, api.IP{V: v}, api.IP{V: v, A: [16]byte{10, 0, 0, 1}}, api.IP{V: v, A: [16]byte{0xff, 2, 15: 1}}, api.IP{V: v, A: [16]byte{224, 0, 0, 5}})
	}
	for i := 4; i < 16; i++ {
		for bit := range 8 {
			bad := four(224, 0, 0, 1)
			bad.A[i] = 1 << bit
			list = append(list, bad)
		}
	}
	return list
}

// someIP is an address, of bytes that are often 0 or ff.
func someIP(r *rand.Rand) api.IP {
	ip, n := api.IP{V: 4}, 4
	if r.Intn(3) > 0 {
		ip.V, n = 6, 16
	}
	kind := r.Intn(4)
	for i := range ip.A[:n] {
		switch {
		case kind == 0:
			ip.A[i] = byte(r.Intn(256))
		case kind == 1 && r.Intn(4) == 0:
			ip.A[i] = byte(r.Intn(256))
		case kind == 2:
			ip.A[i] = byte(r.Intn(2)) * 0xff
		case kind == 3:
			ip.A[i] = byte(r.Intn(2))
		}
	}
	if ip.V == 6 && r.Intn(8) == 0 {
		copy(ip.A[:], []byte{0, 0, 0, 0, 0, 0, 0, 0, 0, 0, 0xff, 0xff})
	}
	return ip
}

func bits(ip api.IP) int {
	if ip.V == 4 {
		return 32
	}
	return 128
}

// bit is the bit of an address at a place, the highest of the first byte at 0.
func bit(ip api.IP, at int) byte { return ip.A[at/8] >> (7 - at%8) & 1 }

func isIP(t *testing.T, s string, want api.IP) {
	t.Helper()
	if ip, e, p := addr.ParseIP(s); ip != want || e != api.OK || p != 0 {
		t.Errorf("ParseIP(%q) = %v, %d, %d, want %v", s, ip, e, p, want)
	}
}

func isNoIP(t *testing.T, s string, why api.Errno, place int) {
	t.Helper()
	if ip, e, p := addr.ParseIP(s); ip != (api.IP{}) || e != why || p != place {
		t.Errorf("ParseIP(%q) = %v, %d, %d, want %d at %d", s, ip, e, p, why, place)
	}
}

func isNoPrefix(t *testing.T, s string, why api.Errno, place int) {
	t.Helper()
	if x, e, p := addr.ParsePrefix(s); x != (api.Prefix{}) || e != why || p != place {
		t.Errorf("ParsePrefix(%q) = %v, %d, %d, want %d at %d", s, x, e, p, why, place)
	}
}
