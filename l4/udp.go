package l4

import (
	"weir/api"
	"weir/sum"
	"weir/view"
)

// The places of a UDP header's fields in the table of their widths, and in what is read and written by it.
const (
	udpSport = iota
	udpDport
	udpLength
	udpSum
	udpFields // how many there are
)

// udpWidths has the bits of each field; they stand one behind the other, from the header's first bit on.
var udpWidths = [udpFields]int{16, 16, 16, 16}

const (
	udp        = 17 // by which a datagram of IP says that it carries one
	udpHead    = 8  // bytes of the header
	udpSumByte = 6  // where in it the sum stands
	four       = 4  // the versions of IP
	six        = 6
)

// ParseUdp reads a UDP datagram; its Data is a window of b.
func ParseUdp(src, dst api.IP, b []byte) (api.Udp, api.Errno) {
	if len(b) > api.MaxBytes {
		return api.Udp{}, api.ErrLong
	}
	if !fit(src, dst) {
		return api.Udp{}, api.ErrFamily
	}
	w := udpWidths
	l, head, e := view.Fields(b, 0, w[:]...)
	if e != api.OK {
		return api.Udp{}, api.ErrUdpShort
	}
	size, noSum := l[udpLength], l[udpSum] == 0
	if size < head || size > len(b) {
		return api.Udp{}, api.ErrUdpLength
	}
	if noSum && src.V == six || !noSum && !good(src, dst, udp, b[:size]) {
		return api.Udp{}, api.ErrUdpSum
	}
	data, e := view.Window(b, head, size-head)
	if e != api.OK {
		return api.Udp{}, e
	}
	return api.Udp{Sport: l[udpSport], Dport: l[udpDport], NoSum: noSum, Data: data}, api.OK
}

// PutUdp writes a UDP datagram.
func PutUdp(src, dst api.IP, u api.Udp) ([]byte, api.Errno) {
	if !fit(src, dst) {
		return nil, api.ErrFamily
	}
	if e := CheckUdp(src.V, u); e != api.OK {
		return nil, e
	}
	size := udpSize(u)
	w := udpWidths
	head, e := view.Pack(w[:], []int{u.Sport, u.Dport, size, 0})
	if e != api.OK {
		return nil, e
	}
	check := 0
	if !u.NoSum {
		p, e := sum.Pseudo(src, dst, udp, size)
		if e != api.OK {
			return nil, e
		}
		check = notZero(sum.Check(p, head, u.Data))
	}
	return joined(size, udpSumByte, check, head, u.Data)
}

// CheckUdp tells whether the values may be a UDP datagram over IP of that version.
func CheckUdp(v int, u api.Udp) api.Errno {
	if v != four && v != six {
		return api.ErrFamily
	}
	if !within(u.Sport, maxWord) || !within(u.Dport, maxWord) || u.NoSum && v == six {
		return api.ErrL4Field
	}
	if udpSize(u) > api.MaxBytes {
		return api.ErrLong
	}
	return api.OK
}

// udpSize is how many bytes a datagram has.
func udpSize(u api.Udp) int { return udpHead + len(u.Data) }

// notZero is a sum as it is written: 0 would say that there is none, and its other writing is as right.
func notZero(check int) int {
	if check == 0 {
		return maxWord
	}
	return check
}
