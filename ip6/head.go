package ip6

import (
	"weir/addr"
	"weir/api"
	"weir/view"
)

// The places of the header's fields, ahead of its addresses, in the table of their widths and in what is read and written by it.
const (
	atVersion = iota
	atClass
	atFlow
	atLength // of all that is behind the header
	atNext
	atHop
	fields // how many there are
)

// widths has the bits of each of these fields; they stand one behind the other, from the header's first bit on.
var widths = [fields]int{4, 8, 20, 16, 8, 8}

const (
	version   = 6
	headSize  = 40
	hopByte   = 7 // where in the header the hop limit stands
	srcByte   = 8
	dstByte   = 24
	addrBytes = 16
	maxByte   = 0xff
	maxFlow   = 1<<20 - 1
)

// takeApart is the fields of the header at b's beginning, if it is one.
func takeApart(b []byte) ([]int, api.Errno) {
	w := widths
	l, _, e := view.Fields(b, 0, w[:]...)
	if e != api.OK || len(b) < headSize {
		return nil, api.ErrShort6
	}
	if l[atVersion] != version {
		return nil, api.ErrVersion6
	}
	return l, api.OK
}

// putTogether is the header; Check has taken h.
func putTogether(h api.Ip6) []byte {
	w := widths
	first, _ := view.Pack(w[:], []int{version, h.Class, h.Flow, size(h) - headSize, firstKind(h.Exts, behindExts(h)), h.Hop})
	return append(append(first, h.Src.A[:]...), h.Dst.A[:]...)
}

// address is the one that stands at that place of a header.
func address(b []byte, at int) api.IP {
	a := api.IP{V: version}
	w, _ := view.Window(b, at, addrBytes)
	copy(a.A[:], w)
	return a
}

func isSix(a api.IP) bool { return a.V == version && addr.Valid(a) }

// headMayBe tells whether what stands in the header, and the kind of the upper layer, is within its bounds.
func headMayBe(h api.Ip6) bool {
	return within(h.Class, maxByte) && within(h.Flow, maxFlow) && within(h.Hop, maxByte) &&
		isSix(h.Src) && isSix(h.Dst) && within(h.Next, maxByte)
}

func within(v, most int) bool { return v >= 0 && v <= most }
