package split_test

import (
	"math"
	"testing"

	"weir/api"
	"weir/split"
)

// 13.2: the examples.
func TestExamples6(t *testing.T) {
	g := six(1300)
	yes6(t, g, 1280, 7, part6(g, g.Data, 17, 7, 0, 1232, true), part6(g, g.Data, 17, 7, 1232, 1300, false))
	two := six(1300, hop(8), dst(8))
	all := chain(t, two, dst(8))
	yes6(t, two, 1280, 7, part6(two, all, 60, 7, 0, 1224, true, hop(8)), part6(two, all, 60, 7, 1224, 1308, false, hop(8)))
	fit := six(1240)
	yes6(t, fit, 1280, 7, fit)
	no6(t, fit, 1280, -1, api.ErrArg)
	f := six(1296)
	f.Frag = api.Frag{Has: true, ID: 9}
	no6(t, f, 1280, 7, api.ErrRefrag)
}

// 13.2: what fits is handed out as it is, whatever else it says.
func TestFitting6(t *testing.T) {
	for _, h := range []api.Ip6{six(0), six(1240), six(1232, hop(8)), six(1216, hop(8), way(8), dst(8)), six(0, way(1240))} {
		yes6(t, h, 1280, 7, h)
	}
	f := six(1232)
	f.Frag = api.Frag{Has: true, More: true, ID: 9, Off: 16}
	f.Next = 60
	yes6(t, f, 1280, 7, f)
	h := six(65495)
	yes6(t, h, 65535, 7, h)
}

// 13.2: which headers are kept, and the kind of what is cut.
func TestKept(t *testing.T) {
	h0, d1, d2, w1, w2 := hop(16), dst(8), dst(24), way(8), way(32)
	for i, r := range []struct {
		exts []api.Ext
		kept int
		next int
	}{
		{nil, 0, 17},
		{[]api.Ext{h0}, 1, 17},
		{[]api.Ext{d1}, 0, 60},
		{[]api.Ext{d1, d2}, 0, 60},
		{[]api.Ext{h0, d1}, 1, 60},
		{[]api.Ext{h0, d1, d2}, 1, 60},
		{[]api.Ext{w1}, 1, 17},
		{[]api.Ext{w1, d1}, 1, 60},
		{[]api.Ext{d1, w1}, 2, 17},
		{[]api.Ext{h0, w1}, 2, 17},
		{[]api.Ext{h0, d1, w1}, 3, 17},
		{[]api.Ext{h0, d1, w1, d2}, 3, 60},
		{[]api.Ext{w1, d1, w2}, 3, 17},
		{[]api.Ext{w1, d1, w2, d2}, 3, 60},
		{[]api.Ext{h0, w1, w2, d1, d2}, 3, 60},
		{[]api.Ext{d1, w1, d2, d2, d2, d2, d2, d2}, 2, 60},
		{[]api.Ext{d2, d2, d2, d2, d2, d2, d2, w1}, 8, 17},
	} {
		h := six(1300, r.exts...)
		all := chain(t, h, r.exts[r.kept:]...)
		room := 1280 - 48
		for _, x := range r.exts[:r.kept] {
			room -= sizeOf(x)
		}
		room = room / 8 * 8
		l, e := split.Split6(h, 1280, 7)
		want := []api.Ip6{part6(h, all, r.next, 7, 0, room, true, r.exts[:r.kept]...), part6(h, all, r.next, 7, room, len(all), false, r.exts[:r.kept]...)}
		if text(l) != text(want) || e != api.OK {
			t.Errorf("row %d: %s, %d, want %s", i, brief(l), e, brief(want))
		}
	}
}

func sizeOf(x api.Ext) int {
	n := 2 + len(x.Data)
	for _, o := range x.Opts {
		n += len(o.Data)
		if o.Kind != 0 {
			n += 2
		}
	}
	return n
}

// 13.2: with a byte more than fits there are two pieces, though a Fragment header makes both longer.
func TestEnds6(t *testing.T) {
	for n := 1241; n <= 1232+1232; n += 47 {
		h := six(n)
		yes6(t, h, 1280, 7, part6(h, h.Data, 17, 7, 0, 1232, true), part6(h, h.Data, 17, 7, 1232, n, false))
	}
	h := six(2464)
	yes6(t, h, 1280, 7, part6(h, h.Data, 17, 7, 0, 1232, true), part6(h, h.Data, 17, 7, 1232, 2464, false))
	h = six(2465)
	yes6(t, h, 1280, 7, part6(h, h.Data, 17, 7, 0, 1232, true), part6(h, h.Data, 17, 7, 1232, 2464, true), part6(h, h.Data, 17, 7, 2464, 2465, false))
}

// 13.2: a last piece may be longer than those ahead of it.
func TestLongLast6(t *testing.T) {
	h := six(1232 + 1239)
	yes6(t, h, 1287, 7, part6(h, h.Data, 17, 7, 0, 1232, true), part6(h, h.Data, 17, 7, 1232, 2471, false))
	h = six(1240 + 1239)
	yes6(t, h, 1288, 7, part6(h, h.Data, 17, 7, 0, 1240, true), part6(h, h.Data, 17, 7, 1240, 2479, false))
}

// 13.2: a cut may go through the headers that are not kept.
func TestCutHeaders6(t *testing.T) {
	h := six(10, dst(1000), dst(1000))
	all := chain(t, h, h.Exts...)
	yes6(t, h, 1280, 0, part6(h, all, 60, 0, 0, 1232, true), part6(h, all, 60, 0, 1232, 2010, false))
	h = six(0, dst(2000))
	h.Next = 59
	all = chain(t, h, h.Exts...)
	yes6(t, h, 1280, 0, part6(h, all, 60, 0, 0, 1232, true), part6(h, all, 60, 0, 1232, 2000, false))
}

// 13.2: kept headers that just leave room for eight bytes, and that leave less.
func TestTight(t *testing.T) {
	h := six(20, way(1224))
	yes6(t, h, 1280, 7,
		part6(h, h.Data, 17, 7, 0, 8, true, h.Exts...), part6(h, h.Data, 17, 7, 8, 16, true, h.Exts...), part6(h, h.Data, 17, 7, 16, 20, false, h.Exts...))
	no6(t, six(20, way(1232)), 1280, 7, api.ErrTight)
	no6(t, six(20, way(1232)), 1287, 7, api.ErrTight)
	h = six(20, way(1232))
	yes6(t, h, 1288, 7,
		part6(h, h.Data, 17, 7, 0, 8, true, h.Exts...), part6(h, h.Data, 17, 7, 8, 16, true, h.Exts...), part6(h, h.Data, 17, 7, 16, 20, false, h.Exts...))
	no6(t, six(0, way(1248)), 1280, 7, api.ErrTight)
	no6(t, six(0, hop(2048), dst(2048), way(8)), 1280, 7, api.ErrTight)
	no6(t, six(0, hop(2048), dst(8)), 1280, 7, api.ErrTight)
	fit := six(8, way(1232))
	yes6(t, fit, 1280, 7, fit)
}

// 13.2: every other field is that of h in each piece; the id is the one that was handed in.
func TestOthers6(t *testing.T) {
	h := six(1300)
	h.Class, h.Flow, h.Hop, h.Next = 255, 1<<20-1, 0, 255
	for _, id := range []int{0, 1, 1<<32 - 1} {
		yes6(t, h, 1280, id, part6(h, h.Data, 255, id, 0, 1232, true), part6(h, h.Data, 255, id, 1232, 1300, false))
	}
}

// 13.2: the greatest datagram at either end of the MTUs.
func TestGreatest6(t *testing.T) {
	h := six(65495)
	yes6(t, h, 65534, 7, part6(h, h.Data, 17, 7, 0, 65480, true), part6(h, h.Data, 17, 7, 65480, 65495, false))
	l, e := split.Split6(h, 1280, 7)
	if e != api.OK || len(l) != 54 || text(l[53]) != text(part6(h, h.Data, 17, 7, 65296, 65495, false)) {
		t.Errorf("Split6 at 1280: %d pieces, %d", len(l), e)
	}
}

// 13.2: wrong inputs, each error ahead of those that are asked behind it.
func TestErrors6(t *testing.T) {
	bad := six(1300)
	bad.Hop = 256
	chained := six(1300)
	chained.Next = 60
	frag := six(1300, way(1240))
	frag.Frag = api.Frag{Has: true, ID: 9}
	for _, r := range []struct {
		h       api.Ip6
		mtu, id int
		e       api.Errno
	}{
		{api.Ip6{}, 1280, 7, api.ErrField6}, {bad, 0, -1, api.ErrField6}, {chained, 0, -1, api.ErrChain}, {six(65496), 0, -1, api.ErrLong},
		{six(1300, dst(8), hop(8)), 0, -1, api.ErrFirst}, {six(0, dst(7)), 0, -1, api.ErrOption6},
		{frag, 1279, -1, api.ErrMTU}, {frag, 65536, -1, api.ErrMTU}, {six(0), 1279, 7, api.ErrMTU}, {six(0), 65536, 7, api.ErrMTU}, {six(0), -1, 7, api.ErrMTU},
		{six(0), math.MinInt, 7, api.ErrMTU}, {six(0), math.MaxInt, 7, api.ErrMTU},
		{frag, 1280, -1, api.ErrArg}, {six(0), 1280, -1, api.ErrArg}, {six(0), 1280, 1 << 32, api.ErrArg}, {six(1300), 1280, math.MinInt, api.ErrArg}, {six(1300), 1280, math.MaxInt, api.ErrArg},
		{frag, 1280, 7, api.ErrRefrag},
		{six(1300, way(1240)), 1280, 7, api.ErrTight},
	} {
		no6(t, r.h, r.mtu, r.id, r.e)
	}
}

// 13.3
func TestFits6(t *testing.T) {
	bad := six(100)
	bad.Hop = 256
	frag := six(96)
	frag.Frag = api.Frag{Has: true, More: true}
	for _, r := range []struct {
		h    api.Ip6
		mtu  int
		fits bool
	}{
		{six(1240), 1280, true}, {six(1240), 1279, false}, {six(0), 40, true}, {six(0), 39, false}, {six(0), -1, false}, {six(0), 0, false}, {six(0), math.MinInt, false}, {six(0), math.MaxInt, true},
		{six(8, hop(8), way(16), dst(8)), 80, true}, {six(8, hop(8), way(16), dst(8)), 79, false}, {frag, 144, true}, {frag, 143, false},
		{six(65495), 65535, true}, {six(65495), 65534, false}, {six(65496), math.MaxInt, false},
		{bad, 9000, false}, {bad, 0, false}, {api.Ip6{}, 9000, false}, {api.Ip6{}, 0, false}, {six(0, dst(7)), 9000, false},
	} {
		if got := split.Fits6(r.h, r.mtu); got != r.fits {
			t.Errorf("Fits6(%s, %d) = %v", brief(r.h), r.mtu, got)
		}
	}
}
