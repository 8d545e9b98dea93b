package addr

import "weir/api"

// special: the nets whose addresses are not like all others. The first line that matches holds, so that a net stands behind the single addresses and lesser nets in it.
var special = [...]struct {
	class, version int
	net            [16]byte
	length         int
}{
	{api.CZero, 4, [16]byte{}, 32},
	{api.CZero, 6, [16]byte{}, 128},
	{api.CLoop, 4, [16]byte{127}, 8},
	{api.CLoop, 6, [16]byte{15: 1}, 128},
	{api.CMulti, 4, [16]byte{224}, 4},
	{api.CMulti, 6, [16]byte{0xff}, 8},
	{api.CLocal, 4, [16]byte{169, 254}, 16},
	{api.CLocal, 6, [16]byte{0xfe, 0x80}, 10},
	{api.CBroad, 4, [16]byte{255, 255, 255, 255}, 32},
	{api.CReserved, 4, [16]byte{}, 8},
	{api.CReserved, 4, [16]byte{240}, 4},
	{api.CReserved, 6, [16]byte{}, 8},
}

// Class tells what kind of address it is.
func Class(ip api.IP) int {
	if !Valid(ip) {
		return api.CNone
	}
	for _, s := range special {
		if s.version == ip.V && head(ip.A, s.length) == s.net {
			return s.class
		}
	}
	return api.CUni
}

// GroupMac is the link address of a multicast address.
func GroupMac(ip api.IP) (api.Mac, api.Errno) {
	if Class(ip) != api.CMulti {
		return api.Mac{}, api.ErrAddr
	}
	a := ip.A
	if ip.V == 4 {
		return api.Mac{0x01, 0x00, 0x5e, a[1] & 0x7f, a[2], a[3]}, api.OK
	}
	return api.Mac{0x33, 0x33, a[12], a[13], a[14], a[15]}, api.OK
}

// Solicited is the solicited-node multicast address of an IPv6 address.
func Solicited(ip api.IP) (api.IP, api.Errno) {
	class := Class(ip)
	if ip.V != 6 || class == api.CZero || class == api.CMulti {
		return api.IP{}, api.ErrAddr
	}
	return api.IP{V: 6, A: [16]byte{0: 0xff, 1: 0x02, 11: 0x01, 12: 0xff, 13: ip.A[13], 14: ip.A[14], 15: ip.A[15]}}, api.OK
}
