package ip6_test

import (
	"bytes"
	"math"
	"math/rand"
	"slices"
	"testing"

	"weir/api"
	"weir/ip6"
)

type checkRow struct {
	h    api.Ip6
	want api.Errno
}

// checkAll holds Check, Size and Serialise against each row.
func checkAll(t *testing.T, rows []checkRow) {
	t.Helper()
	for i, r := range rows {
		kept := copied(r.h)
		if e := ip6.Check(r.h); e != r.want {
			t.Errorf("%d: Check = %d, want %d", i, e, r.want)
		}
		b, e := ip6.Serialise(r.h)
		if e != r.want || e != api.OK && b != nil || e == api.OK && !bytes.Equal(b, modelBytes(r.h)) {
			t.Errorf("%d: Serialise has %d bytes, %d, want %d", i, len(b), e, r.want)
		}
		if n := ip6.Size(r.h); n != len(b) {
			t.Errorf("%d: Size = %d, want %d", i, n, len(b))
		}
		if h, e := ip6.Parse(b); r.want == api.OK && (e != api.OK || !same(h, r.h) || !ip6.Canonical(b)) {
			t.Errorf("%d: not read again: %d", i, e)
		}
		if !same(r.h, kept) {
			t.Errorf("%d: it was changed", i)
		}
	}
}

// 7.3
func TestCheckOfFields(t *testing.T) {
	rows := []checkRow{
		{bare(func(*api.Ip6) {}), api.OK}, {api.Ip6{}, api.ErrField6}, {api.Ip6{Src: api.IP{V: 6}, Dst: api.IP{V: 6}, Next: 1}, api.OK}, {api.Ip6{Src: api.IP{V: 6}, Dst: api.IP{V: 6}}, api.ErrChain},
		{bare(func(h *api.Ip6) { h.Src = api.IP{} }), api.ErrField6}, {bare(func(h *api.Ip6) { h.Dst = api.IP{} }), api.ErrField6}, {bare(func(h *api.Ip6) { h.Src = api.IP{V: 4} }), api.ErrField6}, {bare(func(h *api.Ip6) { h.Dst = api.IP{V: 4, A: [16]byte{10}} }), api.ErrField6}, {bare(func(h *api.Ip6) { h.Src.V = 5 }), api.ErrField6}, {bare(func(h *api.Ip6) { h.Dst.V = 7 }), api.ErrField6},
		{bare(func(h *api.Ip6) { h.Flow = 1<<20 - 1 }), api.OK}, {bare(func(h *api.Ip6) { h.Flow = 1 << 20 }), api.ErrField6}, {bare(func(h *api.Ip6) { h.Flow = 1 << 16 }), api.OK},
	}
	for _, n := range []int{math.MinInt, -1 << 32, -65536, -256, -60, -1, 1 << 20, 1<<32 + 59, math.MaxInt - 7, math.MaxInt} {
		rows = append(rows, checkRow{bare(func(h *api.Ip6) { h.Class = n }), api.ErrField6}, checkRow{bare(func(h *api.Ip6) { h.Flow = n }), api.ErrField6}, checkRow{bare(func(h *api.Ip6) { h.Hop = n }), api.ErrField6}, checkRow{bare(func(h *api.Ip6) { h.Next = n }), api.ErrField6}, checkRow{bare(func(h *api.Ip6) { h.Src.V = n }), api.ErrField6}, checkRow{bare(func(h *api.Ip6) { h.Dst.V = n }), api.ErrField6})
		rows = append(rows, checkRow{bare(func(h *api.Ip6) { h.Next, h.Frag.Has = n, true }), api.ErrField6})
	}
	for n := range 260 {
		want, next := api.OK, api.OK
		if n > 255 {
			want, next = api.ErrField6, api.ErrField6
		}
		if n == 0 || n == 43 || n == 44 || n == 60 {
			next = api.ErrChain
		}
		rows = append(rows, checkRow{bare(func(h *api.Ip6) { h.Class = n }), want}, checkRow{bare(func(h *api.Ip6) { h.Hop = n }), want}, checkRow{bare(func(h *api.Ip6) { h.Next = n }), next}, checkRow{bare(func(h *api.Ip6) { h.Next, h.Exts = n, []api.Ext{options(60, run(6))} }), next}, checkRow{bare(func(h *api.Ip6) { h.Next, h.Frag.Has = n, true }), want})
	}
	checkAll(t, rows)
}

// 7.3
func TestCheckOfExtensionHeaders(t *testing.T) {
	six, sixty := options(0, run(6)), options(60, run(6))
	rows := []checkRow{
		{withExts(six), api.OK}, {withExts(sixty), api.OK}, {withExts(six, sixty), api.OK}, {withExts(sixty, six), api.ErrFirst}, {withExts(six, six), api.ErrFirst}, {withExts(routes(make([]byte, 6)...), six), api.ErrFirst}, {withExts(sixty, options(0)), api.ErrFirst}, {withExts(sixty, api.Ext{Data: []byte{1}}), api.ErrFirst},
		{withExts(slices.Repeat([]api.Ext{sixty}, 8)...), api.OK}, {withExts(slices.Repeat([]api.Ext{sixty}, 9)...), api.ErrExts}, {withExts(slices.Repeat([]api.Ext{{Kind: 7}}, 9)...), api.ErrExts}, {withExts(slices.Repeat([]api.Ext{six}, 9)...), api.ErrExts}, {withExts(append(slices.Repeat([]api.Ext{sixty}, 7), six)...), api.ErrFirst},
		{bare(func(h *api.Ip6) { h.Exts, h.Frag.Has = slices.Repeat([]api.Ext{sixty}, 8), true }), api.OK}, {bare(func(h *api.Ip6) { h.Exts, h.Frag.Has = slices.Repeat([]api.Ext{sixty}, 9), true }), api.ErrExts},
		{withExts(api.Ext{Kind: 43}), api.ErrChain}, {withExts(api.Ext{Kind: 43, Opts: []api.Opt{}, Data: make([]byte, 6)}), api.OK}, {withExts(api.Ext{Kind: 43, Opts: []api.Opt{run(6)}}), api.ErrChain}, {withExts(api.Ext{Kind: 43, Opts: []api.Opt{run(6)}, Data: make([]byte, 6)}), api.ErrChain}, {withExts(api.Ext{Kind: 43, Opts: []api.Opt{opt(0)}, Data: make([]byte, 6)}), api.ErrChain},
		{withExts(api.Ext{Kind: 60, Opts: []api.Opt{run(6)}, Data: []byte{}}), api.OK}, {withExts(api.Ext{Kind: 60, Opts: []api.Opt{run(6)}, Data: []byte{0}}), api.ErrChain}, {withExts(api.Ext{Opts: []api.Opt{run(6)}, Data: []byte{0}}), api.ErrChain}, {withExts(api.Ext{Kind: 60, Opts: []api.Opt{run(5)}, Data: []byte{0}}), api.ErrChain}, {withExts(api.Ext{Kind: 60, Data: make([]byte, 6)}), api.ErrChain},
		{withExts(sixty, api.Ext{Kind: 43}, options(60)), api.ErrChain}, {withExts(sixty, options(60), api.Ext{Kind: 43}), api.ErrOption6}, {withExts(options(60), six), api.ErrOption6}, {withExts(api.Ext{Kind: 9}, six), api.ErrChain},
	}
	for kind := -3; kind < 300; kind++ {
		want := api.ErrChain
		if kind == 0 || kind == 60 {
			want = api.OK
		}
		rows = append(rows, checkRow{withExts(options(kind, run(6))), want})
		want = api.ErrChain
		if kind == 43 {
			want = api.OK
		}
		rows = append(rows, checkRow{withExts(api.Ext{Kind: kind, Data: make([]byte, 6)}), want})
	}
	for _, kind := range []int{math.MinInt, -1 << 32, 1 << 32, 1<<32 + 43, 1<<32 + 60, math.MaxInt} {
		rows = append(rows, checkRow{withExts(options(kind, run(6))), api.ErrChain}, checkRow{withExts(api.Ext{Kind: kind, Data: make([]byte, 6)}), api.ErrChain})
	}
	for n := range 2100 {
		rout, opts := api.OK, api.OK
		if n%8 != 6 || n > 2046 {
			rout, opts = api.ErrChain, api.ErrOption6
		}
		rows = append(rows, checkRow{withExts(routes(make([]byte, n)...)), rout}, checkRow{withExts(options(60, run(n))), opts}, checkRow{withExts(options(0, run(n))), opts})
	}
	for _, n := range []int{65534, 65542, 1 << 20, 1<<20 + 6} {
		rows = append(rows, checkRow{withExts(routes(make([]byte, n)...)), api.ErrChain}, checkRow{withExts(options(60, run(n))), api.ErrOption6})
	}
	checkAll(t, rows)
}

// 7.3
func TestCheckOfOptions(t *testing.T) {
	rows := []checkRow{}
	add := func(want api.Errno, l ...api.Opt) {
		rows = append(rows, checkRow{withExts(options(0, l...)), want}, checkRow{withExts(routes(make([]byte, 14)...), options(60, l...)), want})
	}
	add(api.ErrOption6)
	add(api.OK, run(6))
	add(api.ErrOption6, run(3), run(3))
	add(api.ErrOption6, opt(5), run(2), run(2))
	add(api.ErrOption6, run(2), run(2), opt(5))
	add(api.OK, run(2), opt(5), run(2))
	add(api.OK, run(1), opt(5, 1), run(2))
	add(api.OK, opt(5), opt(5), opt(5))
	add(api.ErrOption6, opt(5), opt(5))
	add(api.ErrOption6, run(0), run(6))
	add(api.ErrOption6, run(6), run(0))
	add(api.ErrOption6, run(0), opt(5, 1, 2, 3, 4))
	add(api.ErrOption6, opt(5, 1, 2, 3, 4), run(0))
	add(api.ErrOption6, opt(5), run(0), opt(5), opt(5))
	for i := range 6 {
		o := run(6)
		o.Data[i] = byte(1 << i)
		add(api.ErrOption6, o)
	}
	for kind := -3; kind < 300; kind++ {
		want := api.OK
		if kind < 0 || kind == 1 || kind > 255 {
			want = api.ErrOption6
		}
		if kind != 0 {
			add(want, opt(kind, 1, 2, 3, 4))
			add(want, run(2), opt(kind, 1, 2))
			add(want, opt(kind), run(4))
		}
	}
	for _, kind := range []int{math.MinInt, -1 << 32, 1 << 32, 1<<32 + 5, math.MaxInt} {
		add(api.ErrOption6, opt(kind, 1, 2, 3, 4))
	}
	for n := 250; n < 300; n++ {
		want := api.OK
		if n > 255 {
			want = api.ErrOption6
		}
		add(want, opt(5, make([]byte, n)...), run(308-n))
		add(want, run(308-n), opt(5, make([]byte, n)...))
	}
	add(api.ErrOption6, opt(5, make([]byte, 260)...))
	add(api.OK, opt(5, make([]byte, 252)...))
	add(api.OK, append(slices.Repeat([]api.Opt{opt(200, make([]byte, 253)...)}, 8), run(6))...)
	add(api.ErrOption6, append(slices.Repeat([]api.Opt{opt(200, make([]byte, 253)...)}, 8), run(14))...)
	add(api.ErrOption6, slices.Repeat([]api.Opt{opt(5)}, 1027)...)
	add(api.OK, slices.Repeat([]api.Opt{opt(5)}, 1023)...)
	checkAll(t, rows)
}

// 7.3
func TestCheckOfFragments(t *testing.T) {
	frag := func(f api.Frag, n int) api.Ip6 { return bare(func(h *api.Ip6) { h.Frag, h.Data = f, make([]byte, n) }) }
	rows := []checkRow{
		{frag(api.Frag{More: true}, 8), api.ErrFrag6}, {frag(api.Frag{ID: 1}, 8), api.ErrFrag6}, {frag(api.Frag{ID: -1}, 8), api.ErrFrag6}, {frag(api.Frag{Off: 8}, 8), api.ErrFrag6}, {frag(api.Frag{}, 8), api.OK},
		{frag(api.Frag{Has: true}, 0), api.OK}, {frag(api.Frag{Has: true}, 5), api.OK}, {frag(api.Frag{Has: true, Off: 8}, 0), api.ErrFrag6}, {frag(api.Frag{Has: true, Off: 8}, 1), api.OK}, {frag(api.Frag{Has: true, More: true}, 0), api.ErrFrag6}, {frag(api.Frag{Has: true, More: true, Off: 8}, 0), api.ErrFrag6},
		{frag(api.Frag{Has: true, ID: 1<<32 - 1}, 1), api.OK}, {frag(api.Frag{Has: true, ID: 1 << 32}, 1), api.ErrFrag6}, {frag(api.Frag{Has: true, ID: -1}, 1), api.ErrFrag6}, {frag(api.Frag{Has: true, ID: math.MaxInt}, 1), api.ErrFrag6}, {frag(api.Frag{Has: true, ID: math.MinInt}, 1), api.ErrFrag6},
		{frag(api.Frag{Has: true, Off: 65528}, 7), api.OK}, {frag(api.Frag{Has: true, Off: 65528}, 8), api.ErrFrag6}, {frag(api.Frag{Has: true, Off: 65536}, 1), api.ErrFrag6}, {frag(api.Frag{Has: true, Off: 65536}, 0), api.ErrFrag6}, {frag(api.Frag{Has: true, More: true, Off: 65520}, 8), api.OK}, {frag(api.Frag{Has: true, More: true, Off: 65528}, 8), api.ErrFrag6}, {frag(api.Frag{Has: true, Off: 48}, 65487), api.OK}, {frag(api.Frag{Has: true, Off: 56}, 65487), api.ErrFrag6},
		{frag(api.Frag{Has: true}, 65487), api.OK}, {frag(api.Frag{Has: true}, 65488), api.ErrLong}, {frag(api.Frag{Has: true}, 65535), api.ErrLong}, {frag(api.Frag{Has: true}, 65536), api.ErrFrag6}, {frag(api.Frag{Has: true, More: true}, 65480), api.OK}, {frag(api.Frag{Has: true, More: true}, 65488), api.ErrLong}, {frag(api.Frag{Has: true, Off: 8}, 65527), api.ErrLong}, {frag(api.Frag{Has: true, Off: 8}, 65528), api.ErrFrag6},
	}
	for n := range 40 {
		want := api.OK
		if n == 0 || n%8 > 0 {
			want = api.ErrFrag6
		}
		rows = append(rows, checkRow{frag(api.Frag{Has: true, More: true}, n), want}, checkRow{frag(api.Frag{Has: true, More: true, Off: 16}, n), want})
	}
	for _, off := range []int{math.MinInt, -1 << 32, -8, -7, -1, 1, 4, 7, 9, 12, 65527, 65529, 65530, 65532, 65535, 65536, 1 << 32, 1<<32 + 8, math.MaxInt - 7, math.MaxInt} {
		rows = append(rows, checkRow{frag(api.Frag{Has: true, Off: off}, 1), api.ErrFrag6}, checkRow{frag(api.Frag{Has: true, Off: off}, 0), api.ErrFrag6}, checkRow{frag(api.Frag{Has: true, More: true, Off: off}, 8), api.ErrFrag6}, checkRow{frag(api.Frag{Off: off}, 8), api.ErrFrag6})
	}
	checkAll(t, rows)
}

// 7.3: no more than MaxBytes bytes in all.
func TestCheckOfLength(t *testing.T) {
	most := slices.Repeat([]api.Ext{routes(make([]byte, 2046)...)}, 8)
	var rows []checkRow
	for n := range 20 {
		add := func(room int, h api.Ip6) {
			want := api.OK
			if n > 10 {
				want = api.ErrLong
			}
			h.Data = make([]byte, room-10+n)
			rows = append(rows, checkRow{h, want})
		}
		add(65495, bare(func(*api.Ip6) {}))
		add(65487, withExts(options(0, run(6))))
		add(65487, withExts(options(60, opt(7, 1, 2, 3, 4))))
		add(65479, withExts(options(0, opt(5, 0, 0), run(2)), routes(make([]byte, 6)...)))
		add(65495-16384, withExts(most...))
		add(65487-16384, bare(func(h *api.Ip6) { h.Exts, h.Frag.Has = most, true }))
		add(65487, bare(func(h *api.Ip6) { h.Frag.Has = true }))
	}
	checkAll(t, append(rows, checkRow{bare(func(h *api.Ip6) { h.Data = make([]byte, 1<<20) }), api.ErrLong}))
}

// 7.3, 7.4: of several faults the first in the document's order is told.
func TestCheckOrder(t *testing.T) {
	type fault struct {
		lay  func(*api.Ip6)
		want api.Errno
	}
	shared := []fault{
		{func(h *api.Ip6) { h.Class = 256 }, api.ErrField6}, {func(h *api.Ip6) { h.Dst.V = 4 }, api.ErrField6},
		{func(h *api.Ip6) { h.Exts = append(h.Exts, slices.Repeat([]api.Ext{options(60, run(6))}, 7)...) }, api.ErrExts},
		{func(h *api.Ip6) { h.Exts[0].Data = []byte{1} }, api.ErrChain},
		{func(h *api.Ip6) { h.Exts[0].Opts = []api.Opt{run(5)} }, api.ErrOption6},
		{func(h *api.Ip6) { h.Exts[1].Kind = 0 }, api.ErrFirst},
		{func(h *api.Ip6) { h.Exts[1].Data = make([]byte, 7) }, api.ErrChain},
	}
	without := append(slices.Clone(shared), fault{func(h *api.Ip6) { h.Frag.ID = 1 }, api.ErrFrag6}, fault{func(h *api.Ip6) { h.Next = 60 }, api.ErrChain}, fault{func(h *api.Ip6) { h.Data = make([]byte, 65490) }, api.ErrLong})
	with := append(slices.Clone(shared), fault{func(h *api.Ip6) { h.Frag.Off = 4 }, api.ErrFrag6}, fault{func(h *api.Ip6) { h.Frag.ID = -1 }, api.ErrFrag6}, fault{func(h *api.Ip6) { h.Data = make([]byte, 65490) }, api.ErrLong})
	for has, faults := range map[bool][]fault{false: without, true: with} {
		for set := range 1 << len(faults) {
			h, want := withExts(options(60, run(6)), routes(1, 2, 3, 4, 5, 6)), api.OK
			h.Frag.Has = has
			for i := len(faults) - 1; i >= 0; i-- {
				if set>>i&1 == 1 {
					faults[i].lay(&h)
					want = faults[i].want
				}
			}
			if e := ip6.Check(h); e != want {
				t.Errorf("faults %b: Check = %d, want %d", set, e, want)
			}
			b, e := ip6.Serialise(h)
			if e != want || e != api.OK && b != nil || ip6.Size(h) != len(b) {
				t.Errorf("faults %b: Serialise = %d, want %d, Size %d", set, e, want, ip6.Size(h))
			}
		}
	}
}

// 7.4: a run of padding of each length, alone and with an option behind it.
func TestRuns(t *testing.T) {
	for n := 1; n <= 2046; n++ {
		l := []api.Opt{run(n)}
		if n%8 != 6 {
			l = append(l, opt(200, bytes.Repeat([]byte{7}, (12-n%8)%8)...))
		}
		if n > 2040 && n%8 != 6 {
			continue
		}
		h := withExts(options(60, l...))
		w, e := ip6.Serialise(h)
		if e != api.OK || !bytes.Equal(w, modelBytes(h)) || ip6.Size(h) != len(w) || !ip6.Canonical(w) {
			t.Fatalf("a run of %d: %x, %d, want %x", n, w, e, modelBytes(h))
		}
		if g, e := ip6.Parse(w); e != api.OK || !same(g, h) {
			t.Fatalf("a run of %d is read as %v, %d", n, g, e)
		}
	}
	rows := []struct {
		n    int
		want []byte
	}{
		{1, []byte{0}}, {2, []byte{1, 0}}, {3, []byte{1, 1, 0}}, {256, append([]byte{1, 254}, make([]byte, 254)...)}, {257, append([]byte{1, 255}, make([]byte, 255)...)},
		{258, append([]byte{1, 255}, make([]byte, 256)...)}, {259, slices.Concat([]byte{1, 255}, make([]byte, 255), []byte{1, 0})}, {515, slices.Concat([]byte{1, 255}, make([]byte, 255), []byte{1, 255}, make([]byte, 256))},
	}
	for _, r := range rows {
		fit := (14 - r.n%8 - 2) % 8
		w, e := ip6.PutChain([]api.Ext{options(60, run(r.n), opt(9, make([]byte, fit)...))}, 17)
		if e != api.OK || !bytes.Equal(w[2:2+r.n], r.want) {
			t.Errorf("a run of %d: %x, %d", r.n, w, e)
		}
	}
}

// 7.4: nothing but what Serialise writes is canonical: a byte more, a byte less, a bit turned over ahead of the data.
func TestCanonical(t *testing.T) {
	r := rand.New(rand.NewSource(2))
	for range 80 {
		h := someDatagram(r)
		b := modelBytes(h)
		if !ip6.Canonical(b) || ip6.Canonical(append(slices.Clone(b), 0)) || ip6.Canonical(b[:len(b)-1]) {
			t.Fatalf("%x, with a byte more, with one less", b)
		}
		for k := range min(8*(len(b)-len(h.Data)), 4000) {
			b[k/8] ^= 128 >> (k % 8)
			g, e := model(b)
			want := e == api.OK && bytes.Equal(modelBytes(g), b)
			if ip6.Canonical(b) != want {
				t.Fatalf("bit %d turned over: %x is canonical: %t", k, b, !want)
			}
			b[k/8] ^= 128 >> (k % 8)
		}
	}
	if ip6.Canonical(nil) || ip6.Canonical(make([]byte, 65536)) {
		t.Error("no byte, and too many")
	}
}

// 7.7
func TestBack(t *testing.T) {
	r := rand.New(rand.NewSource(4))
	for range 30000 {
		h := someDatagram(r)
		kept := copied(h)
		b, e := ip6.Serialise(h)
		if e != api.OK || ip6.Check(h) != api.OK || ip6.Size(h) != len(b) || !bytes.Equal(b, modelBytes(h)) {
			t.Fatalf("Serialise(%v) = %x, %d", h, b, e)
		}
		if g, e := ip6.Parse(b); e != api.OK || !same(h, g) || !ip6.Canonical(b) {
			t.Fatalf("Parse(Serialise(%v)) = %v, %d", h, g, e)
		}
		if !same(h, kept) {
			t.Fatalf("%v was changed", kept)
		}
	}
}

// 7.3, 7.7, 7.8: Check takes just what can be read of some bytes: values near to a datagram.
func TestCheckTakesWhatIsRead(t *testing.T) {
	r := rand.New(rand.NewSource(6))
	counts := map[api.Errno]int{}
	odd := func() int { return []int{-1, 0, 1, 43, 44, 60, 255, 256}[r.Intn(8)] }
	for range 100000 {
		h := someDatagram(r)
		for range r.Intn(3) {
			var x *api.Ext
			var o *api.Opt
			if len(h.Exts) > 0 {
				if x = &h.Exts[r.Intn(len(h.Exts))]; len(x.Opts) > 0 {
					o = &x.Opts[r.Intn(len(x.Opts))]
				}
			}
			switch c := r.Intn(12); {
			case c == 0:
				h.Frag.Has = !h.Frag.Has
			case c == 1:
				h.Frag.Off += r.Intn(17) - 8
			case c == 2:
				h.Frag.More = !h.Frag.More
			case c == 3:
				h.Next = odd()
			case c == 4:
				h.Data = append(h.Data, 0)
			case c == 5 && x != nil:
				x.Kind = odd()
			case c == 6 && x != nil:
				x.Data = append(x.Data, make([]byte, r.Intn(9))...)
			case c == 7 && x != nil:
				x.Opts = append(x.Opts, run(r.Intn(9)))
			case c == 8 && o != nil:
				o.Kind = odd()
			case c == 9 && o != nil:
				o.Data = append(slices.Clone(o.Data), make([]byte, r.Intn(9))...)
			case c == 10:
				h.Exts = append(h.Exts, someExts(r, true)...)
			case c == 11:
				h.Exts = slices.Delete(h.Exts, 0, min(1, len(h.Exts)))
			}
		}
		want := false
		if h.Next >= 0 && h.Next <= 255 {
			g, e := model(modelBytes(h))
			want = e == api.OK && same(g, h)
		}
		e := ip6.Check(h)
		counts[e]++
		if (e == api.OK) != want {
			t.Fatalf("Check(%v) = %d, read again: %t", h, e, want)
		}
		if b, f := ip6.Serialise(h); f != e || e == api.OK && !bytes.Equal(b, modelBytes(h)) {
			t.Fatalf("Serialise(%v) = %x, %d", h, b, f)
		}
	}
	for _, e := range []api.Errno{api.OK, api.ErrField6, api.ErrChain, api.ErrFirst, api.ErrExts, api.ErrOption6, api.ErrFrag6} {
		if counts[e] < 1000 {
			t.Errorf("error %d came only %d times", e, counts[e])
		}
	}
}

// 7.11
func TestDatagramIsLeft(t *testing.T) {
	data, whole := roomy([]byte{1, 2, 3})
	inOption, option := roomy([]byte{4, 5})
	inRun, padded := roomy(make([]byte, 2))
	routed, route := roomy([]byte{1, 2, 3, 4, 5, 6})
	opts := []api.Opt{opt(7, inOption...), {Data: inRun}, opt(9, 9)}
	opts[0].Data = inOption
	exts := []api.Ext{options(0, opts[:2]...), {Kind: 43, Data: routed}, options(60, run(6))}
	h := bare(func(h *api.Ip6) { h.Exts, h.Data = exts[:2], data })
	keep := func() []byte { return slices.Concat(whole, option, padded, route) }
	kept, want := keep(), modelBytes(h)
	b, e := ip6.Serialise(h)
	if e != api.OK || ip6.Check(h) != api.OK || ip6.Size(h) != len(want) || !bytes.Equal(b, want) {
		t.Fatalf("%x, %d", b, e)
	}
	c, e := ip6.PutChain(exts[1:2], 17)
	if e != api.OK {
		t.Fatal(e)
	}
	for _, w := range [][]byte{b[:cap(b)], c[:cap(c)]} {
		for i := range w {
			w[i] = 0xee
		}
	}
	if !bytes.Equal(keep(), kept) || opts[2].Kind != 9 || exts[2].Kind != 60 {
		t.Error("an answer shares the datagram's memory")
	}
	if c, e := ip6.Serialise(h); e != api.OK || !bytes.Equal(c, want) {
		t.Errorf("the second time: %x, %d", c, e)
	}
}
