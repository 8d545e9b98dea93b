package ip6

import (
	"weir/api"
	"weir/view"
)

// The places of a Fragment header's fields in the table of their widths, and in what is read and written by it.
const (
	pieceNext = iota
	pieceReserved
	pieceOff // in units
	pieceBits
	pieceMore
	pieceID
	pieceFields // how many there are
)

var pieceWidths = [pieceFields]int{8, 8, 13, 2, 1, 32}

const (
	pieceSize = 8
	maxOff    = 0x1fff * unit
	maxID     = 1<<32 - 1
)

// takePiece reads a Fragment header, and the kind of what stands behind.
func takePiece(c *view.Cursor) (api.Frag, int, api.Errno) {
	b, e := c.Window(pieceSize)
	if e != api.OK {
		return api.Frag{}, 0, api.ErrChain
	}
	w := pieceWidths
	l, _, e := view.Fields(b, 0, w[:]...)
	if e != api.OK {
		return api.Frag{}, 0, api.ErrChain
	}
	return api.Frag{Has: true, More: l[pieceMore] != 0, ID: l[pieceID], Off: l[pieceOff] * unit}, l[pieceNext], api.OK
}

// putPiece is the Fragment header of a datagram that has one.
func putPiece(f api.Frag, next int) []byte {
	more := 0
	if f.More {
		more = 1
	}
	w := pieceWidths
	b, _ := view.Pack(w[:], []int{next, 0, f.Off / unit, 0, more, f.ID})
	return b
}

// checkPiece tells whether what h says of a fragment may be, and Next with it: without a Fragment header the chain ends in
// an upper layer.
func checkPiece(h api.Ip6) api.Errno {
	f := h.Frag
	if f.Has {
		if !within(f.ID, maxID) || !within(f.Off, maxOff) || f.Off%unit != 0 || !pieceMayBe(f, len(h.Data)) {
			return api.ErrFrag6
		}
		return api.OK
	}
	if f != (api.Frag{}) {
		return api.ErrFrag6
	}
	if madeOf(h.Next) != upper {
		return api.ErrChain
	}
	return api.OK
}

// pieceMayBe tells whether n bytes may stand at that place of a datagram: only its last piece may end within a unit, only
// one that is all of it may be empty, and what is joined has no more than MaxBytes.
func pieceMayBe(f api.Frag, n int) bool {
	if f.More && n%unit != 0 {
		return false
	}
	if n == 0 && (f.More || f.Off > 0) {
		return false
	}
	return f.Off+n <= api.MaxBytes
}
