package icmp_test

import (
	"bytes"
	"math"
	"math/rand"
	"slices"
	"testing"

	"weir/api"
	"weir/icmp"
	"weir/ip4"
	"weir/ip6"
)

// plain4 is a datagram of 28 bytes of which every trouble may be told, with something changed.
func plain4(f func(*api.Ip4)) api.Ip4 {
	h := api.Ip4{TTL: 1, Proto: 17, Src: ten, Dst: ip("10.0.0.2"), Data: []byte("12345678")}
	if f != nil {
		f(&h)
	}
	return h
}

func plain6(f func(*api.Ip6)) api.Ip6 {
	h := api.Ip6{Hop: 1, Next: 17, Src: l, Dst: m, Data: []byte("12345678")}
	if f != nil {
		f(&h)
	}
	return h
}

// 8.5, 8.6: the document's table, row by row.
func TestTableOfTroubles(t *testing.T) {
	own4, _ := ip4.Serialise(plain4(nil))
	own6, _ := ip6.Serialise(plain6(nil))
	rows := []struct{ kind, extra, type4, code4, rest4, type6, code6, rest6 int }{
		{api.TNoRoute, 0, 3, 0, 0, 1, 0, 0}, {api.TNoHost, 0, 3, 1, 0, 1, 3, 0}, {api.TAdmin, 0, 3, 13, 0, 1, 1, 0},
		{api.TTooBig, 0, 3, 4, 0, 2, 0, 0}, {api.TTooBig, 68, 3, 4, 68, 2, 0, 68}, {api.TTooBig, 1500, 3, 4, 1500, 2, 0, 1500}, {api.TTooBig, 65535, 3, 4, 65535, 2, 0, 65535},
		{api.THops, 0, 11, 0, 0, 3, 0, 0}, {api.TFrags, 0, 11, 1, 0, 3, 1, 0},
		{api.TParam, 0, 12, 0, 0, 4, 0, 0}, {api.TParam, 1, 12, 0, 1 << 24, 4, 0, 1}, {api.TParam, 20, 12, 0, 335544320, 4, 0, 20}, {api.TParam, 255, 12, 0, 4278190080, 4, 0, 255},
	}
	for _, r := range rows {
		x := api.Trouble{Kind: r.kind, Extra: r.extra}
		if g, ok := icmp.Complain4(x, plain4(nil)); !ok || !same(g, api.Icmp{V: 4, Type: r.type4, Code: r.code4, Rest: r.rest4, Data: own4}) {
			t.Errorf("Complain4(%v) = %v, %t", x, g, ok)
		}
		if g, ok := icmp.Complain6(x, plain6(nil)); !ok || !same(g, api.Icmp{V: 6, Type: r.type6, Code: r.code6, Rest: r.rest6, Data: own6}) {
			t.Errorf("Complain6(%v) = %v, %t", x, g, ok)
		}
	}
}

// 8.5, 8.6: each kind with each Extra at an edge.
func TestNoTrouble(t *testing.T) {
	extras := []int{math.MinInt, -1 << 32, -65536, -256, -1, 0, 1, 2, 254, 255, 256, 257, 1280, 65534, 65535, 65536, 65537, 1 << 24, 1 << 32, 1<<32 + 20, 1 << 40, 1<<56 + 1, math.MaxInt}
	for _, kind := range []int{math.MinInt, -7, -1, 0, 1, 2, 3, 4, 5, 6, 7, 8, 9, 14, 256, 257, 1<<32 + 5, math.MaxInt} {
		for _, extra := range extras {
			x := api.Trouble{Kind: kind, Extra: extra}
			g, ok := icmp.Complain4(x, plain4(nil))
			if w, want := modelComplain4(x, plain4(nil)); ok != want || !same(g, w) || !ok && !zero(g) {
				t.Errorf("Complain4(%v) = %v, %t", x, g, ok)
			}
			g, ok = icmp.Complain6(x, plain6(nil))
			if w, want := modelComplain6(x, plain6(nil)); ok != want || !same(g, w) || !ok && !zero(g) {
				t.Errorf("Complain6(%v) = %v, %t", x, g, ok)
			}
		}
	}
}

// 8.5
func TestComplain4Of(t *testing.T) {
	rows := []struct {
		turn func(*api.Ip4)
		want bool
	}{
		{nil, true}, {func(h *api.Ip4) { *h = api.Ip4{} }, false}, {func(h *api.Ip4) { h.Data = nil }, true}, {func(h *api.Ip4) { h.TTL = 0 }, true}, {func(h *api.Ip4) { h.DF = true }, true},
		{func(h *api.Ip4) { h.TTL = 256 }, false}, {func(h *api.Ip4) { h.Tos = -1 }, false}, {func(h *api.Ip4) { h.Opts = []api.Opt{{Kind: 1}} }, false}, {func(h *api.Ip4) { h.Src.A[4] = 1 }, false}, {func(h *api.Ip4) { h.Dst = m }, false}, {func(h *api.Ip4) { h.Src = l }, false}, {func(h *api.Ip4) { h.Dst = none }, false}, {func(h *api.Ip4) { h.Data = make([]byte, 65515) }, true}, {func(h *api.Ip4) { h.Data = make([]byte, 65516) }, false},
		{func(h *api.Ip4) { h.Off = 8 }, false}, {func(h *api.Ip4) { h.Off = 65504 }, false}, {func(h *api.Ip4) { h.Off, h.MF = 8, true }, false}, {func(h *api.Ip4) { h.Off = -8 }, false}, {func(h *api.Ip4) { h.MF = true }, true}, {func(h *api.Ip4) { h.MF, h.Data = true, nil }, false},
		{func(h *api.Ip4) { h.Proto, h.Data = 1, nil }, true}, {func(h *api.Ip4) { h.Proto, h.Data = 1, []byte{3} }, false}, {func(h *api.Ip4) { h.Proto, h.Data = 1, []byte{8, 3, 3, 3} }, true}, {func(h *api.Ip4) { h.Proto, h.Data, h.MF = 1, []byte{11, 0, 0, 0, 0, 0, 0, 0}, true }, false},
	}
	for i, r := range rows {
		h := plain4(r.turn)
		g, ok := icmp.Complain4(api.Trouble{Kind: api.THops}, h)
		if w, want := modelComplain4(api.Trouble{Kind: api.THops}, h); ok != r.want || want != r.want || !same(g, w) || !ok && !zero(g) {
			t.Errorf("%d: %v, %t", i, g, ok)
		}
	}
}

// 8.5, 8.6: each first byte of the data, of each protocol.
func TestComplaintsAboutComplaints(t *testing.T) {
	for proto := range 256 {
		for first := range 256 {
			data := []byte{byte(first), 0, 0, 0, 0, 0, 0, 0}
			want := proto != 1 || first != 3 && first != 4 && first != 5 && first != 11 && first != 12
			if _, ok := icmp.Complain4(api.Trouble{Kind: api.TNoHost}, plain4(func(h *api.Ip4) { h.Proto, h.Data = proto, data })); ok != want {
				t.Errorf("version 4: protocol %d, first byte %d: %t", proto, first, ok)
			}
			want = proto != 0 && proto != 43 && proto != 44 && proto != 60 && (proto != 58 || first > 127 && first != 137)
			if _, ok := icmp.Complain6(api.Trouble{Kind: api.TNoHost}, plain6(func(h *api.Ip6) { h.Next, h.Data = proto, data })); ok != want {
				t.Errorf("version 6: protocol %d, first byte %d: %t", proto, first, ok)
			}
		}
	}
}

// 8.5, 8.6: each kind of address, of the source and of the target.
func TestComplaintsByAddress(t *testing.T) {
	rows := []struct {
		a        string
		src, dst bool
	}{
		{"0.0.0.0", false, true}, {"0.0.0.1", false, true}, {"0.255.255.255", false, true}, {"1.0.0.0", true, true}, {"126.255.255.255", true, true}, {"127.0.0.0", false, true}, {"127.255.255.255", false, true}, {"128.0.0.0", true, true}, {"169.254.0.0", true, true}, {"169.254.255.255", true, true}, {"192.0.2.1", true, true}, {"223.255.255.255", true, true}, {"224.0.0.0", false, false}, {"224.0.0.1", false, false}, {"239.255.255.255", false, false}, {"240.0.0.0", false, true}, {"255.255.255.254", false, true}, {"255.255.255.255", false, false},
		{"::", false, true}, {"::1", false, true}, {"::2", false, true}, {"ff:ffff::", false, true}, {"::ffff:10.0.0.1", false, true}, {"100::", true, true}, {"2001:db8::9", true, true}, {"fe80::1", true, true}, {"febf::1", true, true}, {"fec0::1", true, true}, {"fe7f::1", true, true}, {"feff::", true, true}, {"ff00::", false, false}, {"ff02::1", false, false}, {"ffff:ffff:ffff:ffff:ffff:ffff:ffff:ffff", false, false},
	}
	for _, r := range rows {
		for kind := 1; kind <= 7; kind++ {
			x, a := api.Trouble{Kind: kind}, ip(r.a)
			src, dst := false, false
			want := r.dst
			if a.V == 4 {
				_, src = icmp.Complain4(x, plain4(func(h *api.Ip4) { h.Src = a }))
				_, dst = icmp.Complain4(x, plain4(func(h *api.Ip4) { h.Dst = a }))
			} else {
				want = want || kind == api.TTooBig
				_, src = icmp.Complain6(x, plain6(func(h *api.Ip6) { h.Src = a }))
				_, dst = icmp.Complain6(x, plain6(func(h *api.Ip6) { h.Dst = a }))
			}
			if src != r.src || dst != want {
				t.Errorf("%s, trouble %d: from it %t, to it %t", r.a, kind, src, dst)
			}
		}
	}
}

// 8.6
func TestComplain6Of(t *testing.T) {
	group := ip("ff02::1")
	run := []api.Ext{{Kind: 60, Opts: []api.Opt{{Data: make([]byte, 6)}}}}
	rows := []struct {
		kind int
		turn func(*api.Ip6)
		want bool
	}{
		{5, nil, true}, {5, func(h *api.Ip6) { *h = api.Ip6{} }, false}, {5, func(h *api.Ip6) { h.Data = nil }, true}, {5, func(h *api.Ip6) { h.Hop = 0 }, true}, {5, func(h *api.Ip6) { h.Exts = run }, true},
		{5, func(h *api.Ip6) { h.Hop = 256 }, false}, {5, func(h *api.Ip6) { h.Next = 60 }, false}, {5, func(h *api.Ip6) { h.Exts = []api.Ext{{Kind: 60}} }, false}, {5, func(h *api.Ip6) { h.Src = ten }, false}, {5, func(h *api.Ip6) { h.Dst = ten }, false}, {4, func(h *api.Ip6) { h.Dst = none }, false}, {5, func(h *api.Ip6) { h.Data = make([]byte, 65495) }, true}, {5, func(h *api.Ip6) { h.Data = make([]byte, 65496) }, false},
		{5, func(h *api.Ip6) { h.Frag = api.Frag{Has: true, Off: 8} }, false}, {5, func(h *api.Ip6) { h.Frag = api.Frag{Has: true, More: true, Off: 8} }, false}, {5, func(h *api.Ip6) { h.Frag = api.Frag{Has: true, Off: 65520} }, false}, {5, func(h *api.Ip6) { h.Frag = api.Frag{Has: true, More: true} }, true}, {5, func(h *api.Ip6) { h.Frag = api.Frag{Has: true} }, true}, {5, func(h *api.Ip6) { h.Frag = api.Frag{Has: true, More: true}; h.Data = h.Data[:7] }, false}, {5, func(h *api.Ip6) { h.Frag = api.Frag{Off: 8} }, false}, {4, func(h *api.Ip6) { h.Frag = api.Frag{Has: true, Off: 8} }, false},
		{5, func(h *api.Ip6) { h.Dst = group }, false}, {7, func(h *api.Ip6) { h.Dst = group }, false}, {4, func(h *api.Ip6) { h.Dst = group }, true}, {4, func(h *api.Ip6) { h.Src = group }, false}, {4, func(h *api.Ip6) { h.Dst, h.Src = group, api.IP{V: 6} }, false},
		{5, func(h *api.Ip6) { h.Next, h.Data = 58, nil }, true}, {5, func(h *api.Ip6) { h.Next, h.Data = 58, []byte{127} }, false}, {5, func(h *api.Ip6) { h.Next, h.Data = 58, []byte{128} }, true}, {4, func(h *api.Ip6) { h.Next, h.Data = 58, []byte{137} }, false}, {5, func(h *api.Ip6) { h.Next, h.Data = 58, []byte{128, 1, 1, 137} }, true}, {5, func(h *api.Ip6) { h.Next, h.Data, h.Exts = 58, []byte{1}, run }, false}, {5, func(h *api.Ip6) { h.Next, h.Data, h.Frag = 58, []byte{1}, api.Frag{Has: true} }, false}, {5, func(h *api.Ip6) { h.Next, h.Data = 1, []byte{3} }, true}, {4, func(h *api.Ip6) { h.Dst, h.Next, h.Data = group, 58, []byte{1} }, false},
	}
	for i, r := range rows {
		h := plain6(r.turn)
		g, ok := icmp.Complain6(api.Trouble{Kind: r.kind}, h)
		if w, want := modelComplain6(api.Trouble{Kind: r.kind}, h); ok != r.want || want != r.want || !same(g, w) || !ok && !zero(g) {
			t.Errorf("%d: %v, %t", i, g, ok)
		}
	}
}

// 8.5, 8.6: how much of the datagram is told, at each length near to the edge and at the greatest.
func TestWhatIsTold(t *testing.T) {
	for _, n := range []int{0, 1, 487, 488, 489, 527, 528, 529, 530, 1191, 1192, 1193, 1194, 1500, 65455, 65495, 65515} {
		data := bytes.Repeat([]byte{7}, n)
		for _, opts := range [][]api.Opt{nil, {{Kind: 7, Data: make([]byte, 38)}}} {
			h := plain4(func(h *api.Ip4) { h.Opts, h.Data = opts, data })
			own, e := ip4.Serialise(h)
			g, ok := icmp.Complain4(api.Trouble{Kind: 1}, h)
			if ok != (e == api.OK) || !bytes.Equal(g.Data, own[:min(len(own), 548)]) {
				t.Errorf("version 4, %d bytes, %d options: %d are told, %t", n, len(opts), len(g.Data), ok)
			}
		}
		for _, exts := range [][]api.Ext{nil, {{Kind: 43, Data: make([]byte, 2046)}}} {
			h := plain6(func(h *api.Ip6) { h.Exts, h.Data = exts, data })
			own, e := ip6.Serialise(h)
			g, ok := icmp.Complain6(api.Trouble{Kind: 1}, h)
			if ok != (e == api.OK) || !bytes.Equal(g.Data, own[:min(len(own), 1232)]) {
				t.Errorf("version 6, %d bytes, %d headers: %d are told, %t", n, len(exts), len(g.Data), ok)
			}
		}
	}
}

// 8.7: what Complain4 tells, in a datagram of its own, is never told about.
func quiet4(t *testing.T, r *rand.Rand, g api.Icmp) {
	t.Helper()
	b, e := icmp.Serialise(someIP(r, 4), someIP(r, 4), g)
	if e != api.OK || icmp.Check(g) != api.OK {
		t.Fatalf("%v: %d", g, e)
	}
	for kind := 1; kind <= 7; kind++ {
		h := api.Ip4{TTL: 64, Proto: 1, Src: goodIP(r, 4), Dst: goodIP(r, 4), Data: b}
		if r.Intn(2) == 0 {
			h.Src, h.Dst = someIP(r, 4), someIP(r, 4)
		}
		if x, ok := icmp.Complain4(api.Trouble{Kind: kind}, h); ok || !zero(x) {
			t.Fatalf("of %v is told %v", h, x)
		}
	}
}

func quiet6(t *testing.T, r *rand.Rand, g api.Icmp) {
	t.Helper()
	src, dst := someIP(r, 6), someIP(r, 6)
	b, e := icmp.Serialise(src, dst, g)
	if e != api.OK || icmp.Check(g) != api.OK {
		t.Fatalf("%v: %d", g, e)
	}
	for kind := 1; kind <= 7; kind++ {
		h := api.Ip6{Hop: 64, Next: 58, Src: goodIP(r, 6), Dst: goodIP(r, 6), Data: b}
		if r.Intn(2) == 0 {
			h.Src, h.Dst = src, dst
		}
		if x, ok := icmp.Complain6(api.Trouble{Kind: kind}, h); ok || !zero(x) {
			t.Fatalf("of %v is told %v", h, x)
		}
	}
}

// 8.5, 8.7: many datagrams, against the model.
func TestComplain4OfSome(t *testing.T) {
	r := rand.New(rand.NewSource(3))
	told := 0
	for range 50000 {
		x, h := someTrouble(r), someDatagram4(r)
		g, ok := icmp.Complain4(x, h)
		if w, want := modelComplain4(x, h); ok != want || !same(g, w) || !ok && !zero(g) {
			t.Fatalf("Complain4(%v, %v) = %v, %t, want %v, %t", x, h, g, ok, w, want)
		}
		if !ok {
			continue
		}
		told++
		own, _ := ip4.Serialise(h)
		if head := len(own) - len(h.Data); head > len(g.Data) || !bytes.Equal(g.Data[:head], own[:head]) {
			t.Fatalf("Complain4(%v, %v) tells %x", x, h, g.Data)
		}
		quiet4(t, r, g)
	}
	if told < 10000 {
		t.Errorf("only %d were told", told)
	}
}

// 8.6, 8.7
func TestComplain6OfSome(t *testing.T) {
	r := rand.New(rand.NewSource(4))
	told := 0
	for range 50000 {
		x, h := someTrouble(r), someDatagram6(r)
		g, ok := icmp.Complain6(x, h)
		if w, want := modelComplain6(x, h); ok != want || !same(g, w) || !ok && !zero(g) {
			t.Fatalf("Complain6(%v, %v) = %v, %t, want %v, %t", x, h, g, ok, w, want)
		}
		if !ok {
			continue
		}
		told++
		if own, _ := ip6.Serialise(h); !bytes.Equal(g.Data[:40], own[:40]) {
			t.Fatalf("Complain6(%v, %v) tells %x", x, h, g.Data)
		}
		quiet6(t, r, g)
	}
	if told < 10000 {
		t.Errorf("only %d were told", told)
	}
}

// 8.11
func TestDatagramIsLeft(t *testing.T) {
	for _, n := range []int{3, 2000} {
		data, whole := roomy(bytes.Repeat([]byte{9}, n))
		more, wholeMore := roomy([]byte{1, 2, 3, 4, 5, 6})
		kept, keptMore := slices.Clone(whole), slices.Clone(wholeMore)
		for range 2 { // nothing is kept from the first time
			h4 := plain4(func(h *api.Ip4) { h.Data, h.Opts = data, []api.Opt{{Kind: 7, Data: more}} })
			h6 := plain6(func(h *api.Ip6) { h.Data, h.Exts = data, []api.Ext{{Kind: 43, Data: more}} })
			x := api.Trouble{Kind: api.TTooBig, Extra: 1280}
			g, ok := icmp.Complain4(x, h4)
			if w, want := modelComplain4(x, h4); !ok || !want || !same(g, w) {
				t.Errorf("%v, %t", g, ok)
			}
			scribble(g.Data)
			g, ok = icmp.Complain6(x, h6)
			if w, want := modelComplain6(x, h6); !ok || !want || !same(g, w) {
				t.Errorf("%v, %t", g, ok)
			}
			scribble(g.Data)
			if !bytes.Equal(whole, kept) || !bytes.Equal(wholeMore, keptMore) {
				t.Errorf("%d bytes: an answer shares the datagram's memory", n)
			}
		}
	}
}
