package ip4

import (
	"weir/api"
	"weir/view"
)

// The places of the header's fields in the table of their widths, and in the values that are read and written by it.
const (
	atVersion = iota
	atHead    // the header's length, in units
	atTos
	atTotal
	atID
	atReserved
	atDF
	atMF
	atOff // in steps
	atTTL
	atProto
	atSum
	atSrc
	atDst
	fields // how many there are
)

// widths has the bits of each field; they stand one behind the other, from the header's first bit on.
var widths = [fields]int{4, 4, 8, 16, 16, 1, 1, 1, 13, 8, 8, 16, 32, 32}

const (
	version  = 4
	bareHead = 20 // bytes of a header without options
	unit     = 4  // bytes that the field of the header's length counts as one
	step     = 8  // bytes that the field of the offset counts as one
	maxByte  = 0xff
	maxWord  = 0xffff
	maxOff   = 0x1fff * step
)

// takeApart is the fields of the header at b's beginning; ErrOut, if b has not so many bytes.
func takeApart(b []byte) ([]int, api.Errno) {
	w := widths
	l, _, e := view.Fields(b, 0, w[:]...)
	return l, e
}

// putTogether is the header without its options and with the sum 0; Check has taken h.
func putTogether(h api.Ip4, head, total int) []byte {
	w := widths
	b, _ := view.Pack(w[:], []int{version, head / unit, h.Tos, total, h.ID, 0, bit(h.DF), bit(h.MF), h.Off / step, h.TTL, h.Proto, 0, number(h.Src), number(h.Dst)})
	return b
}

// datagram is what the fields tell of one: all but its options and data.
func datagram(l []int) api.Ip4 {
	return api.Ip4{
		Tos: l[atTos], ID: l[atID], DF: l[atDF] != 0, MF: l[atMF] != 0, Off: l[atOff] * step,
		TTL: l[atTTL], Proto: l[atProto], Src: address(l[atSrc]), Dst: address(l[atDst]),
	}
}

// address is the one whose four bytes make this number.
func address(v int) api.IP {
	return api.IP{V: version, A: [16]byte{byte(v >> 24), byte(v >> 16), byte(v >> 8), byte(v)}}
}

// number is what the four bytes of an address make.
func number(a api.IP) int {
	return int(a.A[0])<<24 | int(a.A[1])<<16 | int(a.A[2])<<8 | int(a.A[3])
}

// isFour tells whether it is an address of IPv4: it is one if nothing of it is lost where its four bytes are taken.
func isFour(a api.IP) bool { return a == address(number(a)) }

func bit(set bool) int {
	if set {
		return 1
	}
	return 0
}
