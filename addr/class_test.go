package addr_test

import (
	"testing"

	"weir/addr"
	"weir/api"
)

// 4.11: the edges of every net, and what lies beside them.
func TestClass(t *testing.T) {
	rows := []struct {
		s    string
		want int
	}{
		{"0.0.0.0", api.CZero}, {"0.0.0.1", api.CReserved}, {"0.255.255.255", api.CReserved}, {"1.0.0.0", api.CUni}, {"10.0.0.1", api.CUni}, {"126.255.255.255", api.CUni},
		{"127.0.0.0", api.CLoop}, {"127.0.0.1", api.CLoop}, {"127.255.255.255", api.CLoop}, {"128.0.0.0", api.CUni},
		{"169.253.255.255", api.CUni}, {"169.254.0.0", api.CLocal}, {"169.254.255.255", api.CLocal}, {"169.255.0.0", api.CUni},
		{"192.168.0.1", api.CUni}, {"223.255.255.255", api.CUni}, {"224.0.0.0", api.CMulti}, {"224.0.0.5", api.CMulti}, {"239.255.255.255", api.CMulti},
		{"240.0.0.0", api.CReserved}, {"240.0.0.1", api.CReserved}, {"255.0.0.0", api.CReserved}, {"255.255.255.254", api.CReserved}, {"255.255.255.255", api.CBroad},
		{"::", api.CZero}, {"::1", api.CLoop}, {"::2", api.CReserved}, {"::127.0.0.1", api.CReserved}, {"::ffff:0:0", api.CReserved}, {"::ffff:1.2.3.4", api.CReserved}, {"0:1::", api.CReserved}, {"1::", api.CReserved}, {"1::1", api.CReserved}, {"ff::", api.CReserved}, {"ff:ffff:ffff:ffff:ffff:ffff:ffff:ffff", api.CReserved}, {"100::", api.CUni}, {"100::1", api.CUni},
		{"7f00::", api.CUni}, {"e000::", api.CUni}, {"a9fe::", api.CUni}, {"2001:db8::1", api.CUni}, {"fc00::1", api.CUni}, {"fe7f:ffff:ffff:ffff:ffff:ffff:ffff:ffff", api.CUni},
		{"fe80::", api.CLocal}, {"fe80::1", api.CLocal}, {"fe80:1::1", api.CLocal}, {"febf:ffff:ffff:ffff:ffff:ffff:ffff:ffff", api.CLocal}, {"fec0::", api.CUni}, {"feff:ffff:ffff:ffff:ffff:ffff:ffff:ffff", api.CUni},
		{"ff00::", api.CMulti}, {"ff02::1", api.CMulti}, {"ffff:ffff:ffff:ffff:ffff:ffff:ffff:ffff", api.CMulti}, {"ffff:ffff::", api.CMulti},
	}
	for _, r := range rows {
		if got := addr.Class(ip(r.s)); got != r.want {
			t.Errorf("Class(%s) = %d, want %d", r.s, got, r.want)
		}
	}
	for _, a := range noAddresses() {
		if got := addr.Class(a); got != api.CNone {
			t.Errorf("Class(%v) = %d", a, got)
		}
	}
}

// 4.11: the class of each first byte of version 4, of addresses that are neither the first nor the last of their net.
func TestClassByTheFirstByte(t *testing.T) {
	for b := range 256 {
		want := api.CUni
		switch {
		case b == 0 || b >= 240:
			want = api.CReserved
		case b == 127:
			want = api.CLoop
		case b >= 224:
			want = api.CMulti
		}
		if got := addr.Class(four(byte(b), 3, 4, 5)); got != want {
			t.Errorf("Class(%d.3.4.5) = %d, want %d", b, got, want)
		}
	}
}

// 4.13
func TestGroupMac(t *testing.T) {
	rows := []struct {
		s    string
		want api.Mac
	}{
		{"224.129.2.3", api.Mac{0x01, 0x00, 0x5e, 0x01, 0x02, 0x03}}, {"224.0.0.0", api.Mac{0x01, 0x00, 0x5e, 0, 0, 0}}, {"239.255.255.255", api.Mac{0x01, 0x00, 0x5e, 0x7f, 0xff, 0xff}}, {"230.128.0.1", api.Mac{0x01, 0x00, 0x5e, 0, 0, 1}}, {"224.127.128.129", api.Mac{0x01, 0x00, 0x5e, 0x7f, 0x80, 0x81}},
		{"ff02::1", api.Mac{0x33, 0x33, 0, 0, 0, 1}}, {"ff02::1:ff01:203", api.Mac{0x33, 0x33, 0xff, 1, 2, 3}}, {"ff00::", api.Mac{0x33, 0x33, 0, 0, 0, 0}}, {"ffff:ffff:ffff:ffff:ffff:ffff:8182:8384", api.Mac{0x33, 0x33, 0x81, 0x82, 0x83, 0x84}},
	}
	for _, r := range rows {
		if m, e := addr.GroupMac(ip(r.s)); m != r.want || e != api.OK {
			t.Errorf("GroupMac(%s) = %x, %d", r.s, m, e)
		}
	}
	bad := noAddresses()
	for _, s := range []string{"0.0.0.0", "10.0.0.1", "127.0.0.1", "169.254.0.1", "223.255.255.255", "240.0.0.0", "255.255.255.255", "::", "::1", "::2", "fe80::1", "feff::1", "2001:db8::1", "::ffff:224.0.0.1", "e000::1"} {
		bad = append(bad, ip(s))
	}
	for _, a := range bad {
		if m, e := addr.GroupMac(a); m != (api.Mac{}) || e != api.ErrAddr {
			t.Errorf("GroupMac(%v) = %x, %d", a, m, e)
		}
	}
}

// 4.13
func TestSolicited(t *testing.T) {
	rows := [][2]string{
		{"2001:db8::1:2:3", "ff02::1:ff02:3"}, {"2001:db8::1:ab02:cd03", "ff02::1:ff02:cd03"}, {"fe80::1", "ff02::1:ff00:1"}, {"::1", "ff02::1:ff00:1"}, {"::2", "ff02::1:ff00:2"}, {"::ffff:1.2.3.4", "ff02::1:ff02:304"}, {"2001:db8:ffff:ffff:ffff:ffff:ffff:ffff", "ff02::1:ffff:ffff"}, {"2001:db8::", "ff02::1:ff00:0"}, {"feff::8182:8384", "ff02::1:ff82:8384"},
	}
	for _, r := range rows {
		if got, e := addr.Solicited(ip(r[0])); got != ip(r[1]) || e != api.OK {
			t.Errorf("Solicited(%s) = %v, %d, want %s", r[0], got, e, r[1])
		}
	}
	bad := noAddresses()
	for _, s := range []string{"::", "ff00::", "ff02::1", "ff02::1:ff02:3", "ffff:ffff:ffff:ffff:ffff:ffff:ffff:ffff", "0.0.0.0", "10.0.0.1", "127.0.0.1", "224.0.0.1", "255.255.255.255"} {
		bad = append(bad, ip(s))
	}
	for _, a := range bad {
		if got, e := addr.Solicited(a); got != (api.IP{}) || e != api.ErrAddr {
			t.Errorf("Solicited(%v) = %v, %d", a, got, e)
		}
	}
}
