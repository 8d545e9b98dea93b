package reasm_test

import (
	"bytes"

	"weir/api"
	"weir/ip4"
	"weir/ip6"
)

// piece is a fragment of either version.
type piece struct {
	off  int
	data []byte
	more bool
	h4   api.Ip4
	h6   api.Ip6
}

func (p piece) end() int { return p.off + len(p.data) }

// entry is a context of the second reading: all fragments that it was given and held, whole, and how it fares.
type entry struct {
	v      int
	whose  string
	state  string // open, finished, overlap, inner, beyond
	pieces []piece
	count  int // how many it held, when it was spoilt
	age    int
}

// model is a second reading of the chapter: a list of contexts as they began, each a list of fragments, of which every answer
// is worked out anew, byte by byte.
type model struct {
	max, ticks int
	l          []*entry
}

func (m *model) find(whose string) *entry {
	for _, x := range m.l {
		if x.whose == whose {
			return x
		}
	}
	return nil
}

// byteAt is the byte at a place: that of the first fragment that covers it.
func (x *entry) byteAt(place int) (byte, bool) {
	for _, p := range x.pieces {
		if p.off <= place && place < p.end() {
			return p.data[place-p.off], true
		}
	}
	return 0, false
}

func (x *entry) end() (int, bool) {
	for _, p := range x.pieces {
		if !p.more {
			return p.end(), true
		}
	}
	return 0, false
}

// old tells how many bytes of a piece are there already.
func (x *entry) old(p piece) int {
	n := 0
	for i := range p.data {
		if _, there := x.byteAt(p.off + i); there {
			n++
		}
	}
	return n
}

// fits tells why a piece can't be one of these.
func (x *entry) fits(p piece, most int) api.Errno {
	if len(p.data) == 0 {
		return api.ErrNothing
	}
	if p.end() > most {
		return api.ErrBeyond
	}
	end, known := x.end()
	if known && p.more && p.end() > end || known && !p.more && p.end() != end {
		return api.ErrBeyond
	}
	for _, q := range x.pieces {
		if !known && !p.more && q.end() > p.end() {
			return api.ErrBeyond
		}
	}
	return api.OK
}

// again tells whether a piece is the same as one ahead of it.
func (x *entry) again(p piece) bool {
	for _, q := range x.pieces {
		if q.off == p.off && q.more == p.more && bytes.Equal(q.data, p.data) {
			return true
		}
	}
	return false
}

func (x *entry) whole() ([]byte, bool) {
	end, known := x.end()
	b := make([]byte, end)
	for i := range b {
		var there bool
		if b[i], there = x.byteAt(i); !there {
			return nil, false
		}
	}
	return b, known
}

func (x *entry) head() (piece, bool) {
	for _, p := range x.pieces {
		if p.off == 0 {
			return p, true
		}
	}
	return piece{}, false
}

// closed is why nothing more is taken, or OK.
func (x *entry) closed() api.Errno {
	switch {
	case x.state == "finished":
		return api.ErrFinished
	case x.state == "beyond":
		return api.ErrBeyond
	case x.state == "overlap":
		return api.ErrOverlap
	case x.state == "inner":
		return api.ErrInner
	case len(x.pieces) >= 1024:
		return api.ErrFrags
	}
	return api.OK
}

// close ends an open context: it holds nothing any more, but of a spoilt one it counts what was held ahead of the last.
func (x *entry) close(state string, count int) { x.state, x.count, x.pieces = state, count, nil }

// room makes room for one context more.
func (m *model) room() api.Errno {
	if len(m.l) < m.max {
		return api.OK
	}
	for i, x := range m.l {
		if x.state == "finished" {
			m.l = append(append([]*entry{}, m.l[:i]...), m.l[i+1:]...)
			return api.OK
		}
	}
	return api.ErrTable
}

func (m *model) offer4(h api.Ip4) (api.Ip4, int, api.Errno) {
	if e := ip4.Check(h); e != api.OK {
		return api.Ip4{}, 0, e
	}
	if !h.MF && h.Off == 0 {
		return h, api.OWhole, api.OK
	}
	whose := text([]any{h.Src, h.Dst, h.Proto, h.ID})
	p := piece{off: h.Off, data: h.Data, more: h.MF, h4: h}
	x, there := m.find(whose), true
	if x == nil {
		x, there = &entry{v: 4, whose: whose, state: "open"}, false
	}
	if e := x.closed(); e != api.OK {
		return api.Ip4{}, 0, e
	}
	if e := x.fits(p, 65515); e != api.OK {
		return api.Ip4{}, 0, e
	}
	if _, known := x.end(); x.old(p) == len(p.data) && (p.more || known) {
		return api.Ip4{}, 0, api.ErrDuplicate
	}
	if !there {
		if e := m.room(); e != api.OK {
			return api.Ip4{}, 0, e
		}
		m.l = append(m.l, x)
	}
	x.pieces = append(x.pieces, p)
	b, whole := x.whole()
	if !whole {
		return api.Ip4{}, api.OHeld, api.OK
	}
	head, _ := x.head()
	y := joined4(head.h4, b)
	if ip4.Check(y) != api.OK {
		x.close("beyond", len(x.pieces)-1)
		return api.Ip4{}, 0, api.ErrBeyond
	}
	x.close("finished", 0)
	return y, api.OWhole, api.OK
}

func (m *model) offer6(h api.Ip6) (api.Ip6, int, int, api.Errno) {
	if e := ip6.Check(h); e != api.OK {
		return api.Ip6{}, 0, 0, e
	}
	if !h.Frag.Has {
		return h, 0, api.OWhole, api.OK
	}
	p := piece{off: h.Frag.Off, data: h.Data, more: h.Frag.More, h6: h}
	if p.off == 0 && !p.more {
		if y, e := joinedChain(h, p.data); e != api.OK {
			return api.Ip6{}, 0, 0, e
		} else {
			return y, h.Frag.ID, api.OWhole, api.OK
		}
	}
	whose := text([]any{h.Src, h.Dst, h.Frag.ID})
	x, there := m.find(whose), true
	if x == nil {
		x, there = &entry{v: 6, whose: whose, state: "open"}, false
	}
	if e := x.closed(); e != api.OK {
		return api.Ip6{}, 0, 0, e
	}
	if e := x.fits(p, 65495); e != api.OK {
		return api.Ip6{}, 0, 0, e
	}
	if x.again(p) {
		return api.Ip6{}, 0, 0, api.ErrDuplicate
	}
	if x.old(p) > 0 {
		x.close("overlap", len(x.pieces))
		return api.Ip6{}, 0, 0, api.ErrOverlap
	}
	if !there {
		if e := m.room(); e != api.OK {
			return api.Ip6{}, 0, 0, e
		}
		m.l = append(m.l, x)
	}
	x.pieces = append(x.pieces, p)
	b, whole := x.whole()
	if !whole {
		return api.Ip6{}, 0, api.OHeld, api.OK
	}
	head, _ := x.head()
	y, e := joinedChain(head.h6, b)
	if e != api.OK {
		x.close("inner", len(x.pieces)-1)
		return api.Ip6{}, 0, 0, e
	}
	x.close("finished", 0)
	return y, h.Frag.ID, api.OWhole, api.OK
}

// joinedChain is the datagram that Parse reads, if b stands right behind the headers ahead of the Fragment header.
func joinedChain(head api.Ip6, b []byte) (api.Ip6, api.Errno) {
	exts, next, rest, e := ip6.Chain(head.Next, b)
	y := api.Ip6{Class: head.Class, Flow: head.Flow, Hop: head.Hop, Src: head.Src, Dst: head.Dst, Next: next, Data: rest}
	y.Exts = append(append([]api.Ext{}, head.Exts...), exts...)
	if e != api.OK || ip6.Check(y) != api.OK {
		return api.Ip6{}, api.ErrInner
	}
	return y, api.OK
}

func (m *model) tick() []api.Late {
	var told []api.Late
	var stay []*entry
	for _, x := range m.l {
		x.age++
		if x.age < m.ticks {
			stay = append(stay, x)
			continue
		}
		if x.state == "finished" {
			continue
		}
		y := api.Late{V: x.v, Frags: len(x.pieces) + x.count}
		if head, has := x.head(); has {
			y.First, y.H4, y.H6 = true, head.h4, head.h6
		}
		told = append(told, y)
	}
	m.l = stay
	return told
}

// counted is live, held and finished.
func (m *model) counted() [3]int {
	n := [3]int{0: len(m.l)}
	for _, x := range m.l {
		n[1] += len(x.pieces) + x.count
		if x.state == "finished" {
			n[2]++
		}
	}
	return n
}
