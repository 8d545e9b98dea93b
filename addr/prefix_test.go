package addr_test

import (
	"math/rand"
	"strings"
	"testing"

	"weir/addr"
	"weir/api"
)

// 4.5, 4.6
func TestPrefixes(t *testing.T) {
	rows := []struct {
		s, printed string
		want       api.Prefix
	}{
		{"10.0.0.0/8", "10.0.0.0/8", prefix(four(10, 0, 0, 0), 8)}, {"0.0.0.0/0", "0.0.0.0/0", prefix(four(0, 0, 0, 0), 0)}, {"10.1.2.3/32", "10.1.2.3/32", prefix(four(10, 1, 2, 3), 32)}, {"128.0.0.0/1", "128.0.0.0/1", prefix(four(128, 0, 0, 0), 1)}, {"10.1.2.2/31", "10.1.2.2/31", prefix(four(10, 1, 2, 2), 31)},
		{"::/0", "::/0", prefix(six(), 0)}, {"::/128", "::/128", prefix(six(), 128)}, {"::1/128", "::1/128", prefix(ip("::1"), 128)}, {"2001:db8::/32", "2001:db8::/32", prefix(ip("2001:db8::"), 32)}, {"FE80:0:0::/10", "fe80::/10", prefix(ip("fe80::"), 10)}, {"::ffff:0:0/96", "::ffff:0.0.0.0/96", prefix(ip("::ffff:0.0.0.0"), 96)}, {"::ffff:1.2.3.0/120", "::ffff:1.2.3.0/120", prefix(ip("::ffff:1.2.3.0"), 120)}, {"1:2:3:4:5:6:7:8/128", "1:2:3:4:5:6:7:8/128", prefix(six(1, 2, 3, 4, 5, 6, 7, 8), 128)},
		{"ffff:ffff:ffff:ffff:ffff:ffff:255.255.255.255/128", "ffff:ffff:ffff:ffff:ffff:ffff:ffff:ffff/128", prefix(ip("ffff:ffff:ffff:ffff:ffff:ffff:ffff:ffff"), 128)},
	}
	for _, r := range rows {
		if p, e, place := addr.ParsePrefix(r.s); p != r.want || e != api.OK || place != 0 {
			t.Errorf("ParsePrefix(%q) = %v, %d, %d", r.s, p, e, place)
		}
		if s, e := addr.PrintPrefix(r.want); s != r.printed || e != api.OK {
			t.Errorf("PrintPrefix(%v) = %q, %d, want %q", r.want, s, e, r.printed)
		}
	}
}

// 4.5
func TestParsePrefixRefuses(t *testing.T) {
	rows := []struct {
		s     string
		why   api.Errno
		place int
	}{
		{"", api.ErrCut, 0}, {"10.0.0.0", api.ErrCut, 8}, {"::", api.ErrCut, 2}, {"x", api.ErrCut, 1}, {"256.0.0.0", api.ErrCut, 9}, {"10.0.0.0 8", api.ErrCut, 10}, {strings.Repeat("1", 49), api.ErrCut, 49},
		{"/", api.ErrCut, 0}, {"/8", api.ErrCut, 0}, {"//8", api.ErrCut, 0}, {"10.0.0/8", api.ErrCut, 6}, {"10.0.0./8", api.ErrCut, 7}, {"1:2/8", api.ErrCut, 3}, {"1:/x", api.ErrCut, 2}, {"10/8", api.ErrCut, 2}, {"10.0.0.x/8", api.ErrText, 7}, {"10.0.0.0 /8", api.ErrText, 8}, {"256.0.0.0/8", api.ErrGroup, 0}, {"256.0.0.0/x", api.ErrGroup, 0}, {"1::2::/8", api.ErrGroups, 4}, {"x/", api.ErrText, 0}, {" ::/0", api.ErrText, 0},
		{"10.0.0.0/", api.ErrCut, 9}, {"::/", api.ErrCut, 3}, {"10.0.0.0/x", api.ErrText, 9}, {"10.0.0.0/ 8", api.ErrText, 9}, {"10.0.0.0/-1", api.ErrText, 9}, {"10.0.0.0/+8", api.ErrText, 9}, {"10.0.0.0//8", api.ErrText, 9}, {"10.0.0.1//8", api.ErrText, 9}, {"::/a", api.ErrText, 3}, {"::/:", api.ErrText, 3}, {"10.0.0.0/:", api.ErrText, 9},
		{"10.0.0.0/33", api.ErrLength, 9}, {"10.0.0.0/08", api.ErrLength, 9}, {"10.0.0.0/00", api.ErrLength, 9}, {"10.0.0.0/128", api.ErrLength, 9}, {"10.0.0.0/1000", api.ErrLength, 9}, {"10.0.0.0/0008", api.ErrLength, 9}, {"::/129", api.ErrLength, 3}, {"::/1000", api.ErrLength, 3}, {"::/008", api.ErrLength, 3}, {"::/999", api.ErrLength, 3}, {"::/4294967296", api.ErrLength, 3}, {"::/18446744073709551616", api.ErrLength, 3}, {"10.0.0.1/33", api.ErrLength, 9}, {"10.0.0.0/33x", api.ErrLength, 9}, {"10.0.0.0/08 ", api.ErrLength, 9},
		{"10.0.0.0/8 ", api.ErrText, 10}, {"10.0.0.0/8/8", api.ErrText, 10}, {"10.0.0.1/8/8", api.ErrText, 10}, {"10.0.0.1/8x", api.ErrText, 10}, {"10.0.0.0/8.", api.ErrText, 10}, {"10.0.0.0/8a", api.ErrText, 10}, {"::/128\n", api.ErrText, 6}, {"::1/0x0", api.ErrText, 5},
		{"10.0.0.1/8", api.ErrHostBits, 0}, {"10.0.0.0/6", api.ErrHostBits, 0}, {"0.0.0.1/0", api.ErrHostBits, 0}, {"128.0.0.0/0", api.ErrHostBits, 0}, {"10.0.0.1/31", api.ErrHostBits, 0}, {"::1/127", api.ErrHostBits, 0}, {"::1/0", api.ErrHostBits, 0}, {"2001:db8::/28", api.ErrHostBits, 0}, {"::1/64", api.ErrHostBits, 0},
	}
	for _, r := range rows {
		isNoPrefix(t, r.s, r.why, r.place)
	}
}

// 4.5: a text of 49 bytes is read, one of 50 is not looked at; the address ahead of the / has a bound of its own.
func TestParsePrefixOfLongTexts(t *testing.T) {
	rows := []struct {
		s     string
		why   api.Errno
		place int
	}{
		{strings.Repeat("1", 50), api.ErrLong, 49}, {"::/0" + strings.Repeat(" ", 46), api.ErrLong, 49}, {"::/0" + strings.Repeat(" ", 45), api.ErrText, 4}, {"x/" + strings.Repeat("1", 48), api.ErrLong, 49}, {strings.Repeat("1", 46) + "/8", api.ErrLong, 45}, {strings.Repeat("1", 45) + "/8", api.ErrGroup, 0}, {strings.Repeat("x", 48) + "/", api.ErrLong, 45}, {strings.Repeat("/", 1<<20), api.ErrLong, 49},
		{"ffff:ffff:ffff:ffff:ffff:ffff:255.255.255.255/1280", api.ErrLong, 49}, {"ffff:ffff:ffff:ffff:ffff:ffff:255.255.255.255/129", api.ErrLength, 46}, {"::/" + strings.Repeat("0", 46), api.ErrLength, 3},
	}
	for _, r := range rows {
		isNoPrefix(t, r.s, r.why, r.place)
	}
}

// 4.6
func TestPrintPrefixRefuses(t *testing.T) {
	rows := []struct {
		p    api.Prefix
		want api.Errno
	}{
		{api.Prefix{}, api.ErrAddr}, {prefix(four(10, 0, 0, 0), -1), api.ErrLength}, {prefix(four(10, 0, 0, 0), 33), api.ErrLength}, {prefix(four(10, 0, 0, 1), 31), api.ErrHostBits}, {prefix(six(), 129), api.ErrLength}, {prefix(ip("::1"), 127), api.ErrHostBits},
	}
	for _, a := range noAddresses() {
		rows = append(rows, struct {
			p    api.Prefix
			want api.Errno
		}{prefix(a, 8), api.ErrAddr})
	}
	for _, r := range rows {
		if s, e := addr.PrintPrefix(r.p); s != "" || e != r.want {
			t.Errorf("PrintPrefix(%v) = %q, %d, want %d", r.p, s, e, r.want)
		}
	}
}

// 4.8
func TestOneWritingOfPrefixes(t *testing.T) {
	texts := map[string]api.Prefix{}
	r := rand.New(rand.NewSource(6))
	for range 10000 {
		a := someIP(r)
		n := r.Intn(bits(a) + 1)
		net, _ := addr.Mask(a, n)
		p := prefix(net, n)
		s, e := addr.PrintPrefix(p)
		if e != api.OK {
			t.Fatalf("PrintPrefix(%v): %d", p, e)
		}
		if back, e, place := addr.ParsePrefix(s); back != p || e != api.OK || place != 0 {
			t.Fatalf("ParsePrefix(%q) = %v, %d, %d, want %v", s, back, e, place, p)
		}
		if q, ok := texts[s]; ok && p != q {
			t.Fatalf("%v and %v are both %q", p, q, s)
		}
		texts[s] = p
	}
}
