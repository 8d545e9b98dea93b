package reasm_test

import (
	"testing"

	"weir/api"
)

// pad6 is an option of six zeros, as an extension header of eight bytes has it.
var pad6 = []api.Opt{{Kind: 0, Data: make([]byte, 6)}}

// toUdp are the bytes of a destination header ahead of UDP; toMore ahead of another destination header.
var toUdp, toMore = []byte{17, 0, 1, 4, 0, 0, 0, 0}, []byte{60, 0, 1, 4, 0, 0, 0, 0}

// 12.5.1: first of all the error of ip6.Check, of one whose context is closed too.
func TestCheck6(t *testing.T) {
	x := table(t, 2, 2)
	held6(t, x, part6(1, 0, 8, true))
	whole6(t, x, part6(1, 8, 8, false), joined6(part6(1, 0, 8, true), bytesFrom(0, 16)), 1)
	for _, id := range []int{1, 2} {
		hop, src, ext := part6(id, 8, 8, true), part6(id, 8, 8, true), part6(id, 8, 8, true)
		hop.Hop, src.Src, ext.Exts = 256, four(1), []api.Ext{{Kind: 60}}
		no6(t, x, hop, api.ErrField6)
		no6(t, x, src, api.ErrField6)
		no6(t, x, ext, api.ErrOption6)
		no6(t, x, part6(id, 8, 7, true), api.ErrFrag6)
		no6(t, x, at6(id, 8, nil, true), api.ErrFrag6)
		no6(t, x, at6(id, 8, nil, false), api.ErrFrag6)
		no6(t, x, part6(id, 65528, 8, false), api.ErrFrag6)
		no6(t, x, part6(id, 4, 8, true), api.ErrFrag6)
		no6(t, x, at6(id, 0, make([]byte, 65488), false), api.ErrLong)
	}
	no6(t, x, api.Ip6{}, api.ErrField6)
	no6(t, x, part6(1<<32, 0, 8, true), api.ErrFrag6)
	no6(t, x, part6(-1, 0, 8, true), api.ErrFrag6)
	counts(t, x, 1, 0, 1)
}

// 12.5.2: what has no Fragment header is answered as it is.
func TestPlain6(t *testing.T) {
	x := table(t, 1, 2)
	plain := joined6(part6(1, 0, 8, true), nil)
	plain.Class, plain.Flow, plain.Exts = 3, 5, []api.Ext{{Kind: 0, Opts: pad6}, {Kind: 43, Data: make([]byte, 6)}}
	whole6(t, x, plain, plain, 0)
	held6(t, x, part6(0, 0, 8, true))
	whole6(t, x, plain, plain, 0)
	counts(t, x, 1, 1, 0)
}

// 12.5.3: a fragment that is whole by itself, whatever contexts there are: none, an open one, one of each closed kind, or no
// room for any.
func TestAtomic6(t *testing.T) {
	x := table(t, 4, 2)
	alone := func(id int) {
		whole6(t, x, part6(id, 0, 9, false), joined6(part6(id, 0, 9, false), bytesFrom(0, 9)), id)
	}
	alone(1)
	counts(t, x, 0, 0, 0)
	held6(t, x, part6(1, 0, 8, true))
	held6(t, x, part6(2, 0, 8, true))
	inner := part6(3, 0, 8, true)
	inner.Next = 44
	held6(t, x, inner)
	no6(t, x, at6(2, 0, run(9, 8), true), api.ErrOverlap)
	no6(t, x, part6(3, 8, 8, false), api.ErrInner)
	held6(t, x, part6(4, 0, 8, true))
	whole6(t, x, part6(4, 8, 8, false), joined6(part6(4, 0, 8, true), bytesFrom(0, 16)), 4)
	for _, id := range []int{0, 1, 2, 3, 4, 5, 1<<32 - 1} {
		alone(id)
	}
	counts(t, x, 4, 3, 1)
	held6(t, x, part6(1, 8, 8, true))
	whole6(t, x, part6(1, 16, 1, false), joined6(part6(1, 0, 8, true), bytesFrom(0, 17)), 1)
}

// 12.5.3, 12.5.9: what stands behind the Fragment header is read: its extension headers stand behind those of h.
func TestAtomicJoined6(t *testing.T) {
	x := table(t, 1, 2)
	h := at6(7, 0, append(append([]byte{}, toMore...), append(append([]byte{}, toUdp...), 1, 2, 3)...), false)
	h.Next, h.Class, h.Flow = 60, 3, 5
	h.Exts = []api.Ext{{Kind: 0, Opts: []api.Opt{{Kind: 5, Data: []byte{0, 0}}, {Kind: 0, Data: make([]byte, 2)}}}, {Kind: 43, Data: []byte{1, 2, 3, 4, 5, 6}}}
	want := h
	want.Frag, want.Next, want.Data = api.Frag{}, 17, []byte{1, 2, 3}
	want.Exts = append(append([]api.Ext{}, h.Exts...), api.Ext{Kind: 60, Opts: pad6}, api.Ext{Kind: 60, Opts: pad6})
	whole6(t, x, h, want, 7)

	h = at6(7, 0, nil, false)
	h.Next = 59
	whole6(t, x, h, joined6(h, nil), 7)
	for _, next := range []int{0, 43, 44, 60} {
		h.Next = next
		no6(t, x, h, api.ErrInner)
	}
	counts(t, x, 0, 0, 0)
}

// 12.5.3, 12.5.9: what is joined may have eight extension headers, and none more.
func TestTooManyExts6(t *testing.T) {
	for _, n := range []int{6, 7} {
		h := at6(7, 0, append(append([]byte{}, toMore...), toUdp...), false)
		h.Next = 60
		for range n {
			h.Exts = append(h.Exts, api.Ext{Kind: 43, Data: make([]byte, 6)})
		}
		want := h
		want.Frag, want.Next, want.Data = api.Frag{}, 17, nil
		want.Exts = append(append([]api.Ext{}, h.Exts...), api.Ext{Kind: 60, Opts: pad6}, api.Ext{Kind: 60, Opts: pad6})
		one, two := h, h
		one.Frag.More, one.Data = true, toMore
		two.Frag.Off, two.Data = 8, toUdp
		x := table(t, 1, 2)
		held6(t, x, one)
		if n == 6 {
			whole6(t, x, h, want, 7)
			whole6(t, x, two, want, 7)
			continue
		}
		no6(t, x, h, api.ErrInner)
		counts(t, x, 1, 1, 0)
		no6(t, x, two, api.ErrInner)
		counts(t, x, 1, 1, 0)
		no6(t, x, one, api.ErrInner)
		ticked(t, x)
		ticked(t, x, lost(6, 1))
	}
}

// 12.5: a key is source, destination and id: not the next header, and not that of IPv4.
func TestKey6(t *testing.T) {
	first := part6(1, 0, 8, true)
	var others [3]api.Ip6
	for i := range others {
		others[i] = part6(1, 8, 8, false)
	}
	others[0].Src, others[1].Dst, others[2].Frag.ID = six(3), six(3), 2
	x := table(t, 9, 2)
	held6(t, x, first)
	for _, o := range others {
		held6(t, x, o)
	}
	v4 := part4(1, 8, 8, false)
	v4.Proto = 0
	held4(t, x, v4)
	counts(t, x, 5, 5, 0)
	last := part6(1, 8, 8, false)
	last.Class, last.Flow, last.Hop, last.Next, last.Exts = 9, 9, 9, 6, []api.Ext{{Kind: 60, Opts: pad6}}
	whole6(t, x, last, joined6(first, bytesFrom(0, 16)), 1)
	counts(t, x, 5, 4, 1)
}

// 12.5.9: Class, Flow, Hop, Exts and Next are the head's, whenever it comes.
func TestHead6(t *testing.T) {
	head := part6(1<<32-1, 0, 8, true)
	head.Class, head.Flow, head.Hop, head.Next, head.Exts = 1, 2, 3, 6, []api.Ext{{Kind: 0, Opts: pad6}}
	other := part6(1<<32-1, 8, 3, false)
	other.Exts = []api.Ext{{Kind: 43, Data: make([]byte, 6)}}
	for _, c := range [][2]api.Ip6{{head, other}, {other, head}} {
		x := table(t, 1, 2)
		held6(t, x, c[0])
		whole6(t, x, c[1], joined6(head, bytesFrom(0, 11)), 1<<32-1)
		no6(t, x, c[0], api.ErrFinished)
		counts(t, x, 1, 0, 1)
	}
}

// 12.5.9: headers behind the Fragment header, cut in their midst; and what is no chain of headers.
func TestJoined6(t *testing.T) {
	b := append(append([]byte{}, 17, 1, 5, 2, 9, 9, 1, 8, 0, 0, 0, 0, 0, 0, 0, 0), 1, 2, 3)
	pieces := func(b []byte) []api.Ip6 {
		l := []api.Ip6{at6(7, 0, b[:8], true), at6(7, 8, b[8:], false)}
		l[0].Next, l[1].Next = 60, 60
		return l
	}
	want := joined6(at6(7, 0, nil, true), []byte{1, 2, 3})
	want.Exts = []api.Ext{{Kind: 60, Opts: []api.Opt{{Kind: 5, Data: []byte{9, 9}}, {Kind: 0, Data: make([]byte, 10)}}}}
	for first := range 2 {
		x := table(t, 1, 1)
		l := pieces(b)
		held6(t, x, l[first])
		whole6(t, x, l[1-first], want, 7)

		x = table(t, 1, 1)
		l = pieces(b[:15])
		held6(t, x, l[first])
		no6(t, x, l[1-first], api.ErrInner)
		counts(t, x, 1, 1, 0)
		for _, h := range []api.Ip6{l[0], l[1], part6(7, 8, 8, true), part6(7, 65488, 40, false)} {
			no6(t, x, h, api.ErrInner)
		}
		ticked(t, x, lost(6, 1))
	}
}

// 12.5.6, 12.5.9: up to 65495 bytes may come; with extension headers ahead of them that is too much.
func TestLongest6(t *testing.T) {
	x := table(t, 1, 2)
	no6(t, x, part6(1, 65488, 8, false), api.ErrBeyond)
	no6(t, x, part6(1, 65488, 8, true), api.ErrBeyond)
	counts(t, x, 0, 0, 0)
	held6(t, x, part6(1, 65480, 15, false))
	no6(t, x, part6(1, 65488, 8, false), api.ErrBeyond)
	held6(t, x, part6(1, 0, 32768, true))
	whole6(t, x, part6(1, 32768, 65480-32768, true), joined6(part6(1, 0, 8, true), bytesFrom(0, 65495)), 1)

	head := part6(1, 0, 32768, true)
	head.Exts = []api.Ext{{Kind: 60, Opts: pad6}}
	for _, n := range []int{7, 8} {
		x = table(t, 1, 1)
		held6(t, x, head)
		held6(t, x, part6(1, 65480, n, false))
		if n == 7 {
			whole6(t, x, part6(1, 32768, 65480-32768, true), joined6(head, bytesFrom(0, 65487)), 1)
			continue
		}
		no6(t, x, part6(1, 32768, 65480-32768, true), api.ErrInner)
		counts(t, x, 1, 2, 0)
		no6(t, x, part6(1, 32768, 65480-32768, true), api.ErrInner)
		ticked(t, x, lost(6, 2))
	}
}

// 12.5.6: pieces that contradict the end are refused, and spoil nothing, even where they overlap.
func TestBeyond6(t *testing.T) {
	x := table(t, 1, 2)
	held6(t, x, part6(1, 16, 8, true))
	no6(t, x, part6(1, 8, 8, false), api.ErrBeyond)
	no6(t, x, part6(1, 16, 7, false), api.ErrBeyond)
	held6(t, x, part6(1, 24, 9, false))
	no6(t, x, part6(1, 24, 8, false), api.ErrBeyond)
	no6(t, x, part6(1, 24, 16, true), api.ErrBeyond)
	no6(t, x, part6(1, 40, 8, true), api.ErrBeyond)
	counts(t, x, 1, 2, 0)
	whole6(t, x, part6(1, 0, 16, true), joined6(part6(1, 0, 16, true), bytesFrom(0, 33)), 1)
}

// 12.5.7: the same piece again is let go; any other byte that was there already spoils, be it the same byte.
func TestOverlap6(t *testing.T) {
	for _, h := range []api.Ip6{
		part6(1, 8, 8, true), part6(1, 0, 16, true), part6(1, 0, 32, true), part6(1, 16, 16, true), at6(1, 8, run(9, 16), true),
		part6(1, 8, 24, true), part6(1, 40, 9, false), part6(1, 40, 8, false), part6(1, 24, 24, false), part6(1, 0, 48, false),
	} {
		x := table(t, 2, 2)
		held6(t, x, part6(1, 8, 16, true))
		held6(t, x, part6(1, 40, 8, true))
		no6(t, x, part6(1, 8, 16, true), api.ErrDuplicate)
		counts(t, x, 1, 2, 0)
		if h.Frag.Off == 0 && !h.Frag.More { // whole by itself: it is laid into no context
			whole6(t, x, h, joined6(h, h.Data), 1)
			no6(t, x, part6(1, 8, 40, false), api.ErrOverlap)
		} else {
			no6(t, x, h, api.ErrOverlap)
		}
		counts(t, x, 1, 2, 0)
		for _, later := range []api.Ip6{part6(1, 16, 8, true), part6(1, 8, 16, true), part6(1, 0, 8, true), part6(1, 65488, 40, false), part6(1, 48, 1, false)} {
			no6(t, x, later, api.ErrOverlap)
		}
		ticked(t, x)
		ticked(t, x, lost(6, 2))
		counts(t, x, 0, 0, 0)
	}
}

// 12.5.7: the same bytes at the same place as the last piece are another piece: they overlap.
func TestOtherMore6(t *testing.T) {
	x := table(t, 2, 2)
	held6(t, x, part6(1, 8, 8, true))
	no6(t, x, part6(1, 8, 8, false), api.ErrOverlap)
	held6(t, x, part6(2, 8, 8, false))
	no6(t, x, part6(2, 8, 8, true), api.ErrOverlap)
	no6(t, x, part6(2, 0, 8, true), api.ErrOverlap)
}

// 12.5.4, 12.5.7: spoilt by an overlap is told otherwise than spoilt by what is inside.
func TestSpoilt6(t *testing.T) {
	x := table(t, 2, 2)
	bad := part6(1, 0, 8, true)
	bad.Next = 44
	held6(t, x, bad)
	held6(t, x, part6(2, 0, 8, true))
	no6(t, x, part6(1, 8, 1, false), api.ErrInner)
	no6(t, x, part6(2, 0, 16, true), api.ErrOverlap)
	no6(t, x, part6(1, 0, 16, true), api.ErrInner)
	no6(t, x, part6(2, 8, 1, false), api.ErrOverlap)
	no6(t, x, part6(3, 8, 1, false), api.ErrTable)
	counts(t, x, 2, 2, 0)
}

// 12.5.5: 1024 fragments are held, and no other is looked at then; one fewer, and the datagram can still be whole.
func TestFrags6(t *testing.T) {
	x := table(t, 2, 1)
	for i := range 1023 {
		held6(t, x, part6(1, 8*i, 8, true))
		held6(t, x, part6(2, 16*i, 8, true))
	}
	held6(t, x, part6(2, 16*1023, 8, true))
	for _, h := range []api.Ip6{part6(2, 8, 8, true), part6(2, 0, 8, true), part6(2, 0, 16, true), part6(2, 65488, 40, false)} {
		no6(t, x, h, api.ErrFrags)
	}
	counts(t, x, 2, 2047, 0)
	whole6(t, x, part6(1, 8*1023, 5, false), joined6(part6(1, 0, 8, true), bytesFrom(0, 8*1023+5)), 1)
	counts(t, x, 2, 1024, 1)
	ticked(t, x, late6(1024, part6(2, 0, 8, true)))
}
