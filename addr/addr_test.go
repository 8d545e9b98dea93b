package addr_test

import (
	"bytes"
	"math"
	"math/rand"
	"testing"

	"weir/addr"
	"weir/api"
)

// 4.1
func TestValid(t *testing.T) {
	good := []api.IP{four(0, 0, 0, 0), four(10, 0, 0, 1), four(255, 255, 255, 255), six(), ip("::1"), ip("2001:db8::1"), ip("ffff:ffff:ffff:ffff:ffff:ffff:ffff:ffff"), {V: 6, A: [16]byte{10, 0, 0, 1}}}
	for i := range 16 {
		one := six()
		one.A[i] = 1
		good = append(good, one)
	}
	for _, a := range good {
		if !addr.Valid(a) {
			t.Errorf("Valid(%v) is false", a)
		}
	}
	for _, a := range noAddresses() {
		if addr.Valid(a) {
			t.Errorf("Valid(%v)", a)
		}
	}
}

// 4.2
func TestValidPrefix(t *testing.T) {
	rows := []struct {
		p    api.Prefix
		want api.Errno
	}{
		{prefix(four(0, 0, 0, 0), 0), api.OK}, {prefix(four(10, 0, 0, 0), 8), api.OK}, {prefix(four(10, 0, 0, 0), 7), api.OK}, {prefix(four(10, 0, 0, 0), 6), api.ErrHostBits}, {prefix(four(10, 0, 0, 0), 32), api.OK},
		{prefix(four(255, 255, 255, 255), 32), api.OK}, {prefix(four(255, 255, 255, 255), 31), api.ErrHostBits}, {prefix(four(10, 0, 0, 1), 31), api.ErrHostBits}, {prefix(four(10, 0, 0, 2), 31), api.OK}, {prefix(four(10, 0, 0, 1), 0), api.ErrHostBits}, {prefix(four(128, 0, 0, 0), 0), api.ErrHostBits}, {prefix(four(128, 0, 0, 0), 1), api.OK},
		{prefix(four(10, 0, 0, 0), -1), api.ErrLength}, {prefix(four(10, 0, 0, 0), 33), api.ErrLength}, {prefix(four(10, 0, 0, 1), 33), api.ErrLength}, {prefix(four(10, 0, 0, 0), 128), api.ErrLength}, {prefix(four(10, 0, 0, 0), math.MinInt), api.ErrLength}, {prefix(four(10, 0, 0, 0), math.MaxInt), api.ErrLength}, {prefix(four(10, 0, 0, 0), 1<<32+8), api.ErrLength},
		{prefix(six(), 0), api.OK}, {prefix(six(), 128), api.OK}, {prefix(six(), 129), api.ErrLength}, {prefix(six(), -1), api.ErrLength}, {prefix(ip("::1"), 128), api.OK}, {prefix(ip("::1"), 127), api.ErrHostBits}, {prefix(ip("2001:db8::"), 32), api.OK}, {prefix(ip("2001:db8::"), 29), api.OK}, {prefix(ip("2001:db8::"), 28), api.ErrHostBits}, {prefix(ip("8000::"), 0), api.ErrHostBits}, {prefix(ip("::1"), -1), api.ErrLength}, {prefix(ip("::1"), 129), api.ErrLength},
	}
	for _, r := range rows {
		if e := addr.ValidPrefix(r.p); e != r.want {
			t.Errorf("ValidPrefix(%v) = %d, want %d", r.p, e, r.want)
		}
	}
	for _, a := range noAddresses() {
		for _, n := range []int{-1, 0, 8, 32, 33, 128, 129} { // the address comes first
			if e := addr.ValidPrefix(prefix(a, n)); e != api.ErrAddr {
				t.Errorf("ValidPrefix(%v/%d) = %d", a, n, e)
			}
		}
	}
}

// 4.2: every single bit, every length.
func TestEachHostBit(t *testing.T) {
	for _, v := range []int{4, 6} {
		all := bits(api.IP{V: v})
		for at := range all {
			a := api.IP{V: v}
			a.A[at/8] = 0x80 >> (at % 8)
			for n := range all + 1 {
				want := api.OK
				if at >= n {
					want = api.ErrHostBits
				}
				if e := addr.ValidPrefix(prefix(a, n)); e != want {
					t.Fatalf("version %d, bit %d, length %d: %d, want %d", v, at, n, e, want)
				}
			}
		}
	}
}

// 4.9
func TestMask(t *testing.T) {
	rows := []struct {
		ip   api.IP
		n    int
		want api.IP
	}{
		{four(10, 1, 2, 3), 12, four(10, 0, 0, 0)}, {four(10, 31, 2, 3), 12, four(10, 16, 0, 0)}, {four(10, 1, 2, 3), 32, four(10, 1, 2, 3)}, {four(10, 1, 2, 3), 31, four(10, 1, 2, 2)}, {four(255, 255, 255, 255), 0, four(0, 0, 0, 0)}, {four(255, 255, 255, 255), 1, four(128, 0, 0, 0)}, {four(255, 255, 255, 255), 24, four(255, 255, 255, 0)},
		{six(0xffff, 0xffff, 0xffff), 33, six(0xffff, 0xffff, 0x8000)}, {ip("2001:db8::1"), 128, ip("2001:db8::1")}, {ip("2001:db8::1"), 127, ip("2001:db8::")}, {ip("2001:db8::1"), 0, six()},
	}
	for _, r := range rows {
		if got, e := addr.Mask(r.ip, r.n); got != r.want || e != api.OK {
			t.Errorf("Mask(%v, %d) = %v, %d", r.ip, r.n, got, e)
		}
	}
	r := rand.New(rand.NewSource(1))
	for range 2000 {
		a := someIP(r)
		n := r.Intn(bits(a) + 1)
		got, e := addr.Mask(a, n)
		if e != api.OK || got.V != a.V {
			t.Fatalf("Mask(%v, %d) = %v, %d", a, n, got, e)
		}
		for i := range 128 {
			want := bit(a, i)
			if i >= n {
				want = 0
			}
			if bit(got, i) != want {
				t.Fatalf("Mask(%v, %d) = %v", a, n, got)
			}
		}
	}
}

// 4.9
func TestMaskRefuses(t *testing.T) {
	for _, a := range []api.IP{four(10, 1, 2, 3), ip("2001:db8::1")} {
		for _, n := range []int{math.MinInt, -129, -1, bits(a) + 1, 129, 1<<32 + 8, math.MaxInt} {
			if got, e := addr.Mask(a, n); got != (api.IP{}) || e != api.ErrLength {
				t.Errorf("Mask(%v, %d) = %v, %d", a, n, got, e)
			}
		}
	}
	for _, a := range noAddresses() {
		for _, n := range []int{-1, 0, 8, 32, 128, 129} {
			if got, e := addr.Mask(a, n); got != (api.IP{}) || e != api.ErrAddr {
				t.Errorf("Mask(%v, %d) = %v, %d", a, n, got, e)
			}
		}
	}
}

// 4.10
func TestContains(t *testing.T) {
	ten := prefix(four(10, 0, 0, 0), 8)
	rows := []struct {
		p    api.Prefix
		ip   api.IP
		want bool
	}{
		{ten, four(10, 9, 9, 9), true}, {ten, four(10, 0, 0, 0), true}, {ten, four(10, 255, 255, 255), true}, {ten, four(11, 0, 0, 0), false}, {ten, four(9, 255, 255, 255), false}, {ten, api.IP{V: 6, A: [16]byte{10}}, false},
		{prefix(six(), 0), four(10, 9, 9, 9), false}, {prefix(four(0, 0, 0, 0), 0), six(), false}, {prefix(six(), 0), six(9), true}, {prefix(four(0, 0, 0, 0), 0), four(255, 1, 2, 3), true}, {prefix(six(0xa00), 8), four(10, 0, 0, 0), false},
		{prefix(four(10, 0, 0, 1), 32), four(10, 0, 0, 1), true}, {prefix(four(10, 0, 0, 1), 32), four(10, 0, 0, 0), false}, {prefix(ip("::1"), 128), ip("::1"), true}, {prefix(ip("::1"), 128), six(), false}, {prefix(ip("fe80::"), 10), ip("febf::1"), true}, {prefix(ip("fe80::"), 10), ip("fec0::"), false},
		{prefix(four(10, 0, 0, 1), 8), four(10, 0, 0, 1), false}, {prefix(four(10, 0, 0, 0), 33), four(10, 0, 0, 0), false}, {prefix(four(10, 0, 0, 0), -1), four(10, 0, 0, 0), false}, {prefix(six(), 129), six(), false}, {prefix(six(), -1), six(), false},
	}
	for _, r := range rows {
		if addr.Contains(r.p, r.ip) != r.want {
			t.Errorf("Contains(%v, %v) is not %t", r.p, r.ip, r.want)
		}
	}
	for _, a := range noAddresses() {
		for _, p := range []api.Prefix{ten, prefix(four(0, 0, 0, 0), 0), prefix(six(), 0), prefix(a, 0), prefix(a, 128), prefix(a, 32)} {
			if addr.Contains(p, a) || addr.Contains(prefix(a, p.Len), four(10, 0, 0, 1)) || addr.Contains(prefix(a, p.Len), six()) {
				t.Errorf("Contains(%v, %v)", p, a)
			}
		}
	}
}

// 4.10: an address lies in the net of another as far as their first bits are the same.
func TestContainsAsFarAsTheBitsAreTheSame(t *testing.T) {
	r := rand.New(rand.NewSource(2))
	for range 3000 {
		a, b := someIP(r), someIP(r)
		if r.Intn(2) == 0 {
			b = a
			at := r.Intn(bits(a))
			b.A[at/8] ^= 0x80 >> (at % 8)
		}
		same := 0
		for same < bits(a) && bit(a, same) == bit(b, same) {
			same++
		}
		for n := range bits(a) + 1 {
			net, _ := addr.Mask(a, n)
			if got := addr.Contains(prefix(net, n), b); got != (a.V == b.V && n <= same) {
				t.Fatalf("Contains(%v/%d, %v) = %t", net, n, b, got)
			}
		}
	}
}

// 4.12
func TestLess(t *testing.T) {
	rising := []api.IP{ // each stands ahead of those behind it
		{V: math.MinInt, A: [16]byte{9}}, {V: -1}, {}, {A: [16]byte{15: 1}}, {V: 3, A: [16]byte{255}},
		four(0, 0, 0, 0), {V: 4, A: [16]byte{15: 1}}, {V: 4, A: [16]byte{4: 255}}, four(0, 0, 0, 1), four(1, 2, 3, 4), four(1, 2, 4, 0), four(127, 255, 255, 255), four(128, 0, 0, 0), four(255, 0, 0, 0),
		{V: 5}, six(), ip("::1"), ip("::ff"), ip("::100"), ip("1::"), ip("1::1"), ip("7fff::"), ip("8000::"), ip("ffff:ffff:ffff:ffff:ffff:ffff:ffff:fffe"), ip("ffff:ffff:ffff:ffff:ffff:ffff:ffff:ffff"), {V: 7}, {V: math.MaxInt},
	}
	for i, a := range rising {
		for j, b := range rising {
			if addr.Less(a, b) != (i < j) {
				t.Errorf("Less(%v, %v) = %t", a, b, i >= j)
			}
		}
	}
	r := rand.New(rand.NewSource(3))
	for range 2000 {
		a, b := someIP(r), someIP(r)
		if r.Intn(2) == 0 {
			b = a
			b.A[r.Intn(16)]++
		}
		if want := a.V < b.V || a.V == b.V && bytes.Compare(a.A[:], b.A[:]) < 0; addr.Less(a, b) != want {
			t.Fatalf("Less(%v, %v) is not %t", a, b, want)
		}
	}
}
