package addr_test

import (
	"math/rand"
	"strings"
	"testing"

	"weir/addr"
	"weir/api"
)

// 4.3
func TestParseIPOfVersion4(t *testing.T) {
	rows := []struct {
		s    string
		want api.IP
	}{
		{"10.0.0.1", four(10, 0, 0, 1)}, {"0.0.0.0", four(0, 0, 0, 0)}, {"255.255.255.255", four(255, 255, 255, 255)}, {"1.20.249.250", four(1, 20, 249, 250)}, {"199.200.99.100", four(199, 200, 99, 100)}, {"9.10.0.8", four(9, 10, 0, 8)},
	}
	for _, r := range rows {
		isIP(t, r.s, r.want)
	}
}

// 4.3
func TestParseIPRefusesOfVersion4(t *testing.T) {
	rows := []struct {
		s     string
		why   api.Errno
		place int
	}{
		{"", api.ErrCut, 0}, {"1", api.ErrCut, 1}, {"10", api.ErrCut, 2}, {"10.", api.ErrCut, 3}, {"10.0", api.ErrCut, 4}, {"10.0.0", api.ErrCut, 6}, {"10.0.0.", api.ErrCut, 7},
		{".", api.ErrText, 0}, {" ", api.ErrText, 0}, {"a", api.ErrText, 0}, {"a.0.0.1", api.ErrText, 0}, {".1.2.3", api.ErrText, 0}, {"-1.0.0.1", api.ErrText, 0}, {"+1.0.0.1", api.ErrText, 0}, {" 1.0.0.1", api.ErrText, 0}, {"10.0..1", api.ErrText, 5}, {"10..0.1", api.ErrText, 3}, {"10.0.0.x", api.ErrText, 7}, {"10.0.0. 1", api.ErrText, 7},
		{"1a.0.0.1", api.ErrText, 1}, {"10,0.0.1", api.ErrText, 2}, {"10.0/0.1", api.ErrText, 4}, {"10.0.0 .1", api.ErrText, 6}, {"10.0.0\x00.1", api.ErrText, 6}, {"10.0.0é", api.ErrText, 6}, {"10.0.0.1 ", api.ErrText, 8}, {"10.0.0.1.", api.ErrText, 8}, {"10.0.0.1.2", api.ErrText, 8}, {"10.0.0.1a", api.ErrText, 8}, {"10.0.0.1/8", api.ErrText, 8}, {"10.0.0.1\n", api.ErrText, 8}, {"1e1.0.0.1", api.ErrText, 1}, {"0x1.0.0.1", api.ErrText, 1},
		{"256.0.0.1", api.ErrGroup, 0}, {"300.0.0.1", api.ErrGroup, 0}, {"999.0.0.1", api.ErrGroup, 0}, {"10.0.0.256", api.ErrGroup, 7}, {"10.256.0.1", api.ErrGroup, 3}, {"10.0.01.1", api.ErrGroup, 5}, {"00.0.0.1", api.ErrGroup, 0}, {"000.0.0.1", api.ErrGroup, 0}, {"10.0.0.00", api.ErrGroup, 7}, {"010.0.0.1", api.ErrGroup, 0}, {"1000.0.0.1", api.ErrGroup, 0}, {"0001.0.0.1", api.ErrGroup, 0}, {"10.0.0.1000", api.ErrGroup, 7},
		{"256", api.ErrGroup, 0}, {"256x", api.ErrGroup, 0}, {"1.01x", api.ErrGroup, 2}, {"10.0.0.256.1", api.ErrGroup, 7}, {"10.0.0.18446744073709551617", api.ErrGroup, 7}, {"18446744073709551617.0.0.1", api.ErrGroup, 0}, {"4294967297.0.0.1", api.ErrGroup, 0}, {"1.2.3.04x", api.ErrGroup, 6}, {"x.256", api.ErrText, 0}, {"1.x.256", api.ErrText, 2},
	}
	for _, r := range rows {
		isNoIP(t, r.s, r.why, r.place)
	}
}

// 4.3
func TestParseIPOfVersion6(t *testing.T) {
	rows := []struct {
		s    string
		want api.IP
	}{
		{"::", six()}, {"::1", six(0, 0, 0, 0, 0, 0, 0, 1)}, {"1::", six(1)}, {"1::2", six(1, 0, 0, 0, 0, 0, 0, 2)}, {"0::0", six()}, {"::0", six()}, {"0::", six()},
		{"1:2:3:4:5:6:7:8", six(1, 2, 3, 4, 5, 6, 7, 8)}, {"1:2:3:4:5:6:7::", six(1, 2, 3, 4, 5, 6, 7)}, {"::2:3:4:5:6:7:8", six(0, 2, 3, 4, 5, 6, 7, 8)}, {"1::3:4:5:6:7:8", six(1, 0, 3, 4, 5, 6, 7, 8)}, {"1:2:3:4::6:7:8", six(1, 2, 3, 4, 0, 6, 7, 8)}, {"1:2:3:4:5:6::8", six(1, 2, 3, 4, 5, 6, 0, 8)}, {"0:0:0:0:0:0:0:0", six()},
		{"FE80::AbCd", six(0xfe80, 0, 0, 0, 0, 0, 0, 0xabcd)}, {"0001:02::0", six(1, 2)}, {"ffff:FFFF:0fff:00ff:000f:0000:a:A", six(0xffff, 0xffff, 0xfff, 0xff, 0xf, 0, 10, 10)}, {"1:0:0:2::3", six(1, 0, 0, 2, 0, 0, 0, 3)}, {"::bcde:f019", six(0, 0, 0, 0, 0, 0, 0xbcde, 0xf019)}, {"0000:0000:0000:0000:0000:0000:0000:0001", ip("::1")},
		{"::1.2.3.4", six(0, 0, 0, 0, 0, 0, 0x102, 0x304)}, {"64:ff9b::1.2.3.4", six(0x64, 0xff9b, 0, 0, 0, 0, 0x102, 0x304)}, {"1:2:3:4:5:6:1.2.3.4", six(1, 2, 3, 4, 5, 6, 0x102, 0x304)}, {"1:2:3:4:5::1.2.3.4", six(1, 2, 3, 4, 5, 0, 0x102, 0x304)}, {"::2:3:4:5:6:1.2.3.4", six(0, 2, 3, 4, 5, 6, 0x102, 0x304)}, {"1::255.254.0.10", six(1, 0, 0, 0, 0, 0, 0xfffe, 10)}, {"::ffff:192.0.2.1", six(0, 0, 0, 0, 0, 0xffff, 0xc000, 0x201)},
		{"ffff:ffff:ffff:ffff:ffff:ffff:255.255.255.255", ip("ffff:ffff:ffff:ffff:ffff:ffff:ffff:ffff")},
	}
	for _, r := range rows {
		isIP(t, r.s, r.want)
	}
}

// 4.3
func TestParseIPRefusesOfVersion6(t *testing.T) {
	rows := []struct {
		s     string
		why   api.Errno
		place int
	}{
		{":", api.ErrText, 0}, {":1", api.ErrText, 0}, {":1::", api.ErrText, 0}, {":1:2:3:4:5:6:7:8", api.ErrText, 0}, {":.", api.ErrText, 0}, {":g", api.ErrText, 0}, {"g:", api.ErrText, 0}, {".:", api.ErrText, 0}, {" ::1", api.ErrText, 0}, {"[::1]", api.ErrText, 0}, {"-1::", api.ErrText, 0},
		{":::", api.ErrText, 2}, {":::1", api.ErrText, 2}, {"::::", api.ErrText, 2}, {"::g", api.ErrText, 2}, {"::.", api.ErrText, 2}, {":: 1", api.ErrText, 2}, {"1:::2", api.ErrText, 3}, {"1:::", api.ErrText, 3}, {"1::%eth0", api.ErrText, 3}, {"1:g", api.ErrText, 2}, {"1:.2", api.ErrText, 2}, {"1: 2", api.ErrText, 2}, {"1:2:3:4:5:6:7:8:g", api.ErrText, 16},
		{"1g::", api.ErrText, 1}, {"::1g", api.ErrText, 3}, {"::1 ", api.ErrText, 3}, {"::1%1", api.ErrText, 3}, {"::1/64", api.ErrText, 3}, {"1:2x", api.ErrText, 3}, {"1:2:3:4:5:6:7:8 ", api.ErrText, 15}, {"1:2:3:4:5:6:7:8x9", api.ErrText, 15}, {"::1\x00", api.ErrText, 3}, {"::é", api.ErrText, 2}, {"fé::", api.ErrText, 1},
		{"1:", api.ErrCut, 2}, {"1:2", api.ErrCut, 3}, {"1:2:", api.ErrCut, 4}, {"1::2:", api.ErrCut, 5}, {"::1:", api.ErrCut, 4}, {"1:2:3:4:5:6:7", api.ErrCut, 13}, {"1:2:3:4:5:6:7:", api.ErrCut, 14}, {"1:2:3:4:5:6:7:8:", api.ErrCut, 16}, {"1:2:3:4:5:6:7::8:", api.ErrGroups, 15}, {"::2:3:4:5:6:7:8:", api.ErrCut, 16},
		{"12345::", api.ErrGroup, 0}, {"00001::", api.ErrGroup, 0}, {"::12345", api.ErrGroup, 2}, {"1:fffff:", api.ErrGroup, 2}, {"1:12345", api.ErrGroup, 2}, {"::00000", api.ErrGroup, 2}, {"12345:x", api.ErrGroup, 0}, {"12345x:", api.ErrGroup, 0}, {"12345.1:", api.ErrGroup, 0}, {"::ffffffffffffffffffff", api.ErrGroup, 2},
		{"1:2:3:4:5:6:7:8:9", api.ErrGroups, 16}, {"1:2:3:4:5:6:7:8:9x", api.ErrGroups, 16}, {"1:2:3:4:5:6:7:8:12345", api.ErrGroups, 16}, {"1:2:3:4:5:6:7:8:9:", api.ErrGroups, 16}, {"::2:3:4:5:6:7:8:9", api.ErrGroups, 16}, {"::2:3:4:5:6:7:8:12345", api.ErrGroups, 16}, {"1:2:3:4::5:6:7:8", api.ErrGroups, 15}, {"1:2:3:4:5:6:7::8", api.ErrGroups, 15}, {"1::2:3:4:5:6:7:8", api.ErrGroups, 15},
		{"1:2:3:4:5:6:7:8::", api.ErrGroups, 15}, {"1:2:3:4:5:6:7:8::9", api.ErrGroups, 15}, {"1:2:3:4:5:6:7:8:::", api.ErrGroups, 15}, {"1::2::3", api.ErrGroups, 4}, {"::1::", api.ErrGroups, 3}, {"1::2::", api.ErrGroups, 4}, {"::2:3:4:5:6:7:8::", api.ErrGroups, 15}, {"1::2:::", api.ErrGroups, 4},
	}
	for _, r := range rows {
		isNoIP(t, r.s, r.why, r.place)
	}
}

// 4.3
func TestParseIPRefusesTails(t *testing.T) {
	rows := []struct {
		s     string
		why   api.Errno
		place int
	}{
		{"1.2.3.4:1", api.ErrText, 1}, {"1.2.3.4::", api.ErrText, 1}, {"1.2.3.4:", api.ErrText, 1}, {"a.2.3.4::", api.ErrText, 1}, {"1.:", api.ErrText, 1},
		{"1:2:3:4:5:6:7:1.2.3.4", api.ErrGroups, 14}, {"1:2:3:4:5:6:7:8:1.2.3.4", api.ErrGroups, 16}, {"1:2:3:4:5:6::1.2.3.4", api.ErrGroups, 13}, {"::1:2:3:4:5:6:1.2.3.4", api.ErrGroups, 14}, {"1:2:3:4:5:6:7::1.2.3.4", api.ErrGroups, 15},
		{"1:2:3:4:5:6:7:256.", api.ErrGroups, 14}, {"1:2:3:4:5:6:7:a.", api.ErrGroups, 14}, {"1:2:3:4:5:6:7:12345.", api.ErrGroups, 14}, {"1:2:3:4:5:6:7:1.", api.ErrGroups, 14},
		{"1:2:1.2.3.4", api.ErrCut, 11}, {"1:1.2.3.4", api.ErrCut, 9}, {"1:2:3:4:5:1.2.3.4", api.ErrCut, 17}, {"::1.", api.ErrCut, 4}, {"::1.2.3", api.ErrCut, 7}, {"::1.2.3.", api.ErrCut, 8}, {"1:2.", api.ErrCut, 4}, {"1:2:3:4:5:6:1.2.3", api.ErrCut, 17},
		{"::a.1.2.3", api.ErrText, 2}, {"::1a.1.2.3", api.ErrText, 3}, {"::1..2.3", api.ErrText, 4}, {"::1.a.2.3", api.ErrText, 4}, {"::1.2.3.4:5", api.ErrText, 9}, {"::1.2.3.4::", api.ErrText, 9}, {"::1.2.3.4.5", api.ErrText, 9}, {"::1.2.3.4 ", api.ErrText, 9}, {"::1.2.3:4", api.ErrText, 7}, {"1:1.2.3.4:5", api.ErrText, 9}, {"1:2:3:4:5:6:1.2.3.4:", api.ErrText, 19},
		{"::12345.1.1.1", api.ErrGroup, 2}, {"::256.1.1.1", api.ErrGroup, 2}, {"::1.2.3.256", api.ErrGroup, 8}, {"::1.02.3.4", api.ErrGroup, 4}, {"::01.2.3.4", api.ErrGroup, 2}, {"::0001.2.3.4", api.ErrGroup, 2}, {"1:1.2.3.256", api.ErrGroup, 8},
	}
	for _, r := range rows {
		isNoIP(t, r.s, r.why, r.place)
	}
}

// 4.3: a text of 45 bytes is read, one of 46 is not looked at.
func TestParseIPOfLongTexts(t *testing.T) {
	rows := []struct {
		s     string
		why   api.Errno
		place int
	}{
		{strings.Repeat("1", 45), api.ErrGroup, 0}, {strings.Repeat("1", 46), api.ErrLong, 45}, {strings.Repeat("x", 46), api.ErrLong, 45}, {strings.Repeat(":", 45), api.ErrText, 2}, {strings.Repeat(":", 46), api.ErrLong, 45}, {"10.0.0.1" + strings.Repeat(" ", 38), api.ErrLong, 45}, {"10.0.0.1" + strings.Repeat(" ", 37), api.ErrText, 8},
		{"ffff:ffff:ffff:ffff:ffff:ffff:255.255.255.2550", api.ErrLong, 45}, {"ffff:ffff:ffff:ffff:ffff:fffff:255.255.255.255", api.ErrLong, 45}, {strings.Repeat("1", 1<<20), api.ErrLong, 45}, {"::" + strings.Repeat("1", 43), api.ErrGroup, 2},
	}
	for _, r := range rows {
		isNoIP(t, r.s, r.why, r.place)
	}
}

// 4.4
func TestPrintIP(t *testing.T) {
	rows := []struct {
		ip   api.IP
		want string
	}{
		{four(10, 0, 0, 1), "10.0.0.1"}, {four(0, 0, 0, 0), "0.0.0.0"}, {four(255, 100, 99, 9), "255.100.99.9"},
		{six(), "::"}, {six(0, 0, 0, 0, 0, 0, 0, 1), "::1"}, {six(1), "1::"}, {six(1, 0, 0, 0, 0, 0, 0, 2), "1::2"}, {six(1, 2, 3, 4, 5, 6, 7, 8), "1:2:3:4:5:6:7:8"},
		{six(0x2001, 0xdb8, 0, 0, 1, 0, 0, 1), "2001:db8::1:0:0:1"}, {six(0x2001, 0, 0, 1, 0, 0, 0, 1), "2001:0:0:1::1"}, {six(0x2001, 0, 0, 0, 1, 0, 0, 1), "2001::1:0:0:1"}, {six(0x2001, 0xdb8, 0, 1, 1, 1, 1, 1), "2001:db8:0:1:1:1:1:1"}, {six(0, 1, 2, 3, 4, 5, 6, 7), "0:1:2:3:4:5:6:7"}, {six(1, 2, 3, 4, 5, 6, 7, 0), "1:2:3:4:5:6:7:0"}, {six(0, 1, 0, 1, 0, 1, 0, 1), "0:1:0:1:0:1:0:1"},
		{six(1, 2, 3, 4, 5, 6, 0, 0), "1:2:3:4:5:6::"}, {six(0, 0, 1, 2, 3, 4, 5, 6), "::1:2:3:4:5:6"}, {six(0, 0, 1, 1, 1, 1, 0, 0), "::1:1:1:1:0:0"}, {six(0, 0, 1, 1, 1, 0, 0, 0), "0:0:1:1:1::"}, {six(0, 0, 0, 1, 1, 0, 0, 0), "::1:1:0:0:0"}, {six(0, 1, 0, 0, 1, 0, 0, 0), "0:1:0:0:1::"}, {six(1, 0, 0, 1, 0, 0, 1, 0), "1::1:0:0:1:0"}, {six(0, 1, 1, 0, 0, 1, 1, 0), "0:1:1::1:1:0"},
		{six(0xabcd, 0x10, 0x200, 0x3000, 4, 0xe, 0xff, 0xfff), "abcd:10:200:3000:4:e:ff:fff"}, {six(0xff02, 0, 0, 0, 0, 1, 0xff00, 0), "ff02::1:ff00:0"}, {six(0x00ff, 0xff00, 0x0100), "ff:ff00:100::"}, {ip("ffff:ffff:ffff:ffff:ffff:ffff:ffff:ffff"), "ffff:ffff:ffff:ffff:ffff:ffff:ffff:ffff"},
		{six(0, 0, 0, 0, 0, 0xffff, 0xc000, 0x201), "::ffff:192.0.2.1"}, {six(0, 0, 0, 0, 0, 0xffff), "::ffff:0.0.0.0"}, {six(0, 0, 0, 0, 0, 0xffff, 0xffff, 0xffff), "::ffff:255.255.255.255"}, {six(0, 0, 0, 0, 0, 0, 0xc000, 0x201), "::c000:201"}, {six(0, 0, 0, 0, 1, 0xffff, 0xc000, 0x201), "::1:ffff:c000:201"}, {six(0, 0, 0, 0, 0xffff, 0, 0xc000, 0x201), "::ffff:0:c000:201"}, {six(0, 0, 0, 0, 0, 0xfffe, 0xc000, 0x201), "::fffe:c000:201"}, {six(0, 0, 0, 0, 0, 0x7fff, 0xc000, 0x201), "::7fff:c000:201"}, {six(0x64, 0xff9b, 0, 0, 0, 0, 0x102, 0x304), "64:ff9b::102:304"}, {six(1, 0, 0, 0, 0, 0xffff, 0x102, 0x304), "1::ffff:102:304"},
	}
	for _, r := range rows {
		if s, e := addr.PrintIP(r.ip); s != r.want || e != api.OK {
			t.Errorf("PrintIP(%v) = %q, %d, want %q", r.ip, s, e, r.want)
		}
	}
	for _, a := range noAddresses() {
		if s, e := addr.PrintIP(a); s != "" || e != api.ErrAddr {
			t.Errorf("PrintIP(%v) = %q, %d", a, s, e)
		}
	}
}

// 4.4: every pattern of zero groups, and addresses of any bytes, against the standard library.
func TestPrintIPOfAnyAddress(t *testing.T) {
	check := func(a api.IP) {
		t.Helper()
		if s, e := addr.PrintIP(a); s != lib(a).String() || e != api.OK {
			t.Fatalf("PrintIP(%v) = %q, %d, want %q", a, s, e, lib(a))
		}
	}
	for pattern := range 256 {
		for _, g := range []int{1, 0xffff, 0x100} {
			var list []int
			for i := range 8 {
				list = append(list, pattern>>i&1*g)
			}
			check(six(list...))
		}
	}
	r := rand.New(rand.NewSource(4))
	for range 20000 {
		check(someIP(r))
	}
}

// 4.8
func TestOneWritingOfAddresses(t *testing.T) {
	texts := map[string]api.IP{}
	note := func(a api.IP) {
		s, _ := addr.PrintIP(a)
		isIP(t, s, a)
		if b, ok := texts[s]; ok && a != b {
			t.Fatalf("%v and %v are both %q", a, b, s)
		}
		texts[s] = a
	}
	r := rand.New(rand.NewSource(5))
	for range 20000 {
		a := someIP(r)
		note(a)
		a.A[r.Intn(bits(a)/8)] ^= 1 << r.Intn(8)
		note(a)
	}
	note(four(1, 2, 3, 4))
	note(ip("::1.2.3.4"))
	note(ip("::ffff:1.2.3.4"))
}
