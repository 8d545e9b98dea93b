package hole

import "weir/api"

// unit is what places are counted in: every piece begins at a multiple of it, and all but a last one end there.
const unit = 8

// piece is what of a piece says whether it came before, but for its bytes.
type piece struct {
	off, size int
	more      bool
}

// end may be asked only of a piece that is not too far off: another one's may be above all numbers.
func (p piece) end() int { return p.off + p.size }

// refuse answers the first reason for which a piece is not taken.
func (h *Holes) refuse(p piece) api.Errno {
	switch {
	case p.size > api.MaxBytes:
		return api.ErrLong
	case p.off < 0 || p.off%unit != 0 || p.more && p.size%unit != 0:
		return api.ErrUnit
	case p.size == 0:
		return api.ErrNothing
	case p.off > h.max-p.size:
		return api.ErrFar
	}
	return h.refuseEnd(p)
}

// refuseEnd holds a piece's end against the known one, or, while none is known, against what is held.
func (h *Holes) refuseEnd(p piece) api.Errno {
	known := h.end > 0
	switch {
	case known && p.more && p.end() > h.end:
		return api.ErrPast
	case known && !p.more && p.end() != h.end:
		return api.ErrEnd
	case !known && !p.more && p.end() < len(h.bytes):
		return api.ErrEnd
	}
	return api.OK
}

// reach makes room for bytes up to an end.
func (h *Holes) reach(end int) {
	if n := end - len(h.bytes); n > 0 {
		h.bytes = append(h.bytes, make([]byte, n)...)
	}
}

// fill lays bytes into the holes that they touch, and answers how many of them found their places free.
func (h *Holes) fill(off int, data []byte) int {
	end, fresh := off+len(data), 0
	left := make([][2]int, 0, len(h.gaps)+1) // at the most one hole is parted in two
search:
	for i, g := range h.gaps {
		switch {
		case g[1] <= off:
			left = append(left, g)
			continue search
		case g[0] >= end: // so do all that follow
			left = append(left, h.gaps[i:]...)
			break search
		}
		from, to := max(g[0], off), min(g[1], end)
		fresh += copy(h.bytes[from:to], data[from-off:])
		if g[0] < from {
			left = append(left, [2]int{g[0], from})
		}
		if to < g[1] {
			left = append(left, [2]int{to, g[1]})
		}
	}
	h.gaps = left
	return fresh
}

// endAt makes the end known. Nothing is held behind it, so only the last hole lies there, and it is none any more.
func (h *Holes) endAt(end int) {
	if h.end == 0 && end < h.max {
		h.gaps = h.gaps[:len(h.gaps)-1]
	}
	h.end = end
}
