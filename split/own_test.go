package split_test

import (
	"slices"
	"sync"
	"testing"
	"unsafe"

	"weir/api"
	"weir/split"
)

// span is where in memory a list lies, with its spare room.
type span struct {
	from, to uintptr
	what     string
}

func spanOf[T any](l []T, what string) []span {
	if cap(l) == 0 {
		return nil
	}
	var one T
	from := uintptr(unsafe.Pointer(unsafe.SliceData(l)))
	return []span{{from, from + uintptr(cap(l))*unsafe.Sizeof(one), what}}
}

func spansOpts(l []api.Opt, what string) []span {
	s := spanOf(l, what+" options")
	for _, o := range l {
		s = append(s, spanOf(o.Data, what+" an option's data")...)
	}
	return s
}

func spans4(what string, l ...api.Ip4) []span {
	s := spanOf(l, what+" pieces")
	for _, h := range l {
		s = append(append(s, spansOpts(h.Opts, what)...), spanOf(h.Data, what+" data")...)
	}
	return s
}

func spans6(what string, l ...api.Ip6) []span {
	s := spanOf(l, what+" pieces")
	for _, h := range l {
		s = append(append(s, spanOf(h.Exts, what+" headers")...), spanOf(h.Data, what+" data")...)
		for _, x := range h.Exts {
			s = append(append(s, spansOpts(x.Opts, what)...), spanOf(x.Data, what+" a header's data")...)
		}
	}
	return s
}

// apart fails if two of the spans have memory in common.
func apart(t *testing.T, l []span) {
	t.Helper()
	slices.SortFunc(l, func(a, b span) int {
		if a.from < b.from {
			return -1
		}
		return 1
	})
	for i := 1; i < len(l); i++ {
		if l[i].from < l[i-1].to {
			t.Errorf("%s and %s share memory", l[i-1].what, l[i].what)
		}
	}
}

// roomy is a list with written spare room behind it.
func roomy[T any](l []T, room T) []T {
	more := append(make([]T, 0, len(l)+3), l...)
	return append(more, room, room, room)[:len(l)]
}

func roomyOpts(l []api.Opt) []api.Opt {
	l = roomy(l, api.Opt{Kind: 99, Data: []byte{9}})
	for i := range l {
		l[i].Data = roomy(l[i].Data, 0xee)
	}
	return l
}

func roomy4(h api.Ip4) api.Ip4 {
	h.Opts, h.Data = roomyOpts(h.Opts), roomy(h.Data, 0xee)
	return h
}

func roomy6(h api.Ip6) api.Ip6 {
	h.Exts, h.Data = roomy(h.Exts, api.Ext{Kind: 99}), roomy(h.Data, 0xee)
	for i := range h.Exts {
		h.Exts[i].Opts, h.Exts[i].Data = roomyOpts(h.Exts[i].Opts), roomy(h.Exts[i].Data, 0xee)
	}
	return h
}

// all4 tells a datagram with the room behind its lists; so does all6.
func all4(h api.Ip4) string { return text(h) + allOpts(h.Opts) + text(h.Data[:cap(h.Data)]) }

func all6(h api.Ip6) string {
	s := text(h) + text(h.Data[:cap(h.Data)])
	for _, x := range h.Exts[:cap(h.Exts)] {
		s += text(x) + allOpts(x.Opts) + text(x.Data[:cap(x.Data)])
	}
	return s
}

func allOpts(l []api.Opt) string {
	s := ""
	for _, o := range l[:cap(l)] {
		s += text(o) + text(o.Data[:cap(o.Data)])
	}
	return s
}

// 13.7: nothing that is handed in is changed, and no list of an answer shares memory with it or with another.
func TestMemory4(t *testing.T) {
	o := []api.Opt{opt(7, 5), opt(131, 4), opt(148, 6)}
	held := four(100)
	held.DF = true
	for i, r := range []struct {
		h      api.Ip4
		mtu, n int
	}{
		{four(100, o...), 200, 1}, {four(0), 68, 1}, {four(100, o...), 68, 3}, {four(100, opt(131, 40)), 68, 13}, {four(100), 68, 3},
		{four(100, opt(7, 5)), 100, 2}, {held, 68, 0}, {held, 67, 0}, {four(100, api.Opt{Kind: 1}), 68, 0},
	} {
		h := roomy4(r.h)
		ahead := all4(h)
		l, _ := split.Split4(h, r.mtu)
		if len(l) != r.n {
			t.Errorf("row %d: %d pieces", i, len(l))
		}
		split.Fits4(h, r.mtu)
		if all4(h) != ahead {
			t.Errorf("row %d: what was handed in is changed", i)
		}
		apart(t, append(spans4("h:", h), spans4("answer:", l...)...))
	}
}

// 13.7
func TestMemory6(t *testing.T) {
	frag := six(1296)
	frag.Frag.Has = true
	for i, r := range []struct {
		h      api.Ip6
		mtu, n int
	}{
		{six(100, hop(8), way(16), dst(8)), 1280, 1}, {six(0), 1280, 1}, {frag, 1500, 1}, {six(3000), 1280, 3}, {six(3000, hop(8)), 1280, 3},
		{six(3000, hop(8), dst(16)), 1280, 3}, {six(3000, dst(8), way(16)), 1280, 3}, {six(3000, hop(8), way(16), dst(8), dst(8)), 1280, 3},
		{frag, 1280, 0}, {six(3000, way(1240)), 1280, 0}, {six(0), 0, 0}, {six(0, dst(7)), 1280, 0},
	} {
		h := roomy6(r.h)
		ahead := all6(h)
		l, _ := split.Split6(h, r.mtu, 7)
		if len(l) != r.n {
			t.Errorf("row %d: %d pieces", i, len(l))
		}
		split.Fits6(h, r.mtu)
		if all6(h) != ahead {
			t.Errorf("row %d: what was handed in is changed", i)
		}
		apart(t, append(spans6("h:", h), spans6("answer:", l...)...))
	}
}

// 13.7: the answer stays as it is, whatever is written into what was handed in, and is the same of the same again.
func TestNotKept(t *testing.T) {
	h, g := four(100, opt(7, 5), opt(131, 4)), six(3000, hop(8), way(16), dst(8))
	l4, _ := split.Split4(h, 68)
	l6, _ := split.Split6(g, 1280, 7)
	told4, told6 := text(l4), text(l6)
	h.Data[0], h.Data[99], h.Opts[1].Data[0], h.Opts[0].Kind = 0xee, 0xee, 0xee, 9
	g.Data[0], g.Data[2999], g.Exts[0].Opts[0].Data[0], g.Exts[1].Data[3], g.Exts[2].Kind = 0xee, 0xee, 0xee, 0xee, 0
	if text(l4) != told4 || text(l6) != told6 {
		t.Error("an answer is changed by what is written into what was handed in")
	}
	l4, _ = split.Split4(four(100, opt(7, 5), opt(131, 4)), 68)
	l6, _ = split.Split6(six(3000, hop(8), way(16), dst(8)), 1280, 7)
	if text(l4) != told4 || text(l6) != told6 {
		t.Error("another answer the second time")
	}
}

// 13.7: calls side by side do not meet.
func TestSideBySide(t *testing.T) {
	h, g := four(3000, opt(7, 5), opt(131, 4)), six(9000, hop(8), way(16), dst(8))
	want4, _ := split.Split4(h, 300)
	want6, _ := split.Split6(g, 1280, 7)
	var all sync.WaitGroup
	for range 8 {
		all.Go(func() {
			l4, _ := split.Split4(h, 300)
			l6, _ := split.Split6(g, 1280, 7)
			if text(l4) != text(want4) || text(l6) != text(want6) {
				t.Error("another answer side by side")
			}
		})
	}
	all.Wait()
}
