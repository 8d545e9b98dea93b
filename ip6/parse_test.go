package ip6_test

import (
	"bytes"
	"encoding/binary"
	"math/rand"
	"slices"
	"strings"
	"testing"

	"weir/api"
	"weir/ip6"
)

// 7.1, 7.4: the bytes of datagrams, read and written.
func TestBytesOfDatagrams(t *testing.T) {
	eight := []byte{1, 2, 3, 4, 5, 6, 7, 8}
	rows := []struct {
		b []byte
		h api.Ip6
	}{
		{head(0, 59, 64), bare(func(*api.Ip6) {})},
		{dg(17, 1, 2), bare(func(h *api.Ip6) { h.Next, h.Data = 17, []byte{1, 2} })},
		{slices.Concat(hx("6a b1 23 45 00 03 ff 00"), b.A[:], a.A[:], []byte{9, 8, 7}), api.Ip6{Class: 0xab, Flow: 0x12345, Src: b, Dst: a, Next: 255, Data: []byte{9, 8, 7}}},
		{slices.Concat(hx("6f ff ff ff 00 00 01 ff"), a.A[:], a.A[:]), api.Ip6{Class: 255, Flow: 0xfffff, Hop: 255, Src: a, Dst: a, Next: 1}},
		{make60(), api.Ip6{Src: api.IP{V: 6}, Dst: api.IP{V: 6}, Next: 2}},
		{dg(0, hx("3b 00 05 02 00 00 01 00")...), withExts(options(0, opt(5, 0, 0), run(2)))},
		{dg(0, hx("3b 00 05 02 00 00 c2 00")...), withExts(options(0, opt(5, 0, 0), opt(194)))},
		{dg(60, hx("3b 00 00 02 03 09 09 09")...), withExts(options(60, run(1), opt(2, 9, 9, 9)))},
		{dg(60, hx("3b 01 ff 0b 01 02 03 04 05 06 07 08 09 0a 0b 00")...), withExts(options(60, opt(255, 1, 2, 3, 4, 5, 6, 7, 8, 9, 10, 11), run(1)))},
		{dg(43, hx("11 00 01 02 03 04 05 06 aa")...), bare(func(h *api.Ip6) { h.Exts, h.Next, h.Data = []api.Ext{routes(1, 2, 3, 4, 5, 6)}, 17, []byte{0xaa} })},
		{dg(0, hx("3c 00 01 04 00 00 00 00 2b 00 01 04 00 00 00 00 3c 00 ff fe fd fc fb fa 06 00 07 04 01 02 03 04 bb")...), bare(func(h *api.Ip6) {
			h.Exts = []api.Ext{options(0, run(6)), options(60, run(6)), routes(255, 254, 253, 252, 251, 250), options(60, opt(7, 1, 2, 3, 4))}
			h.Next, h.Data = 6, []byte{0xbb}
		})},
		{dg(44, hx("11 00 00 01 00 00 00 07 01 02 03 04 05 06 07 08")...), bare(func(h *api.Ip6) { h.Next, h.Data, h.Frag = 17, eight, api.Frag{Has: true, More: true, ID: 7} })},
		{dg(44, hx("11 00 12 39 fe dc ba 98 01 02 03 04 05 06 07 08")...), bare(func(h *api.Ip6) {
			h.Next, h.Data, h.Frag = 17, eight, api.Frag{Has: true, More: true, ID: 0xfedcba98, Off: 0x1238}
		})},
		{dg(44, hx("00 00 00 00 00 00 00 07")...), bare(func(h *api.Ip6) { h.Next, h.Frag = 0, api.Frag{Has: true, ID: 7} })},
		{dg(44, hx("2c 00 ff f8 ff ff ff ff 09")...), bare(func(h *api.Ip6) {
			h.Next, h.Data, h.Frag = 44, []byte{9}, api.Frag{Has: true, ID: 1<<32 - 1, Off: 65528}
		})},
		{dg(43, hx("2c 00 01 02 03 04 05 06 3c 00 00 08 00 00 00 01 3c 00")...), bare(func(h *api.Ip6) {
			h.Exts = []api.Ext{routes(1, 2, 3, 4, 5, 6)}
			h.Next, h.Data, h.Frag = 60, []byte{60, 0}, api.Frag{Has: true, ID: 1, Off: 8}
		})},
	}
	for i, r := range rows {
		if h, e := ip6.Parse(r.b); e != api.OK || !same(h, r.h) {
			t.Errorf("%d: Parse(%x) = %v, %d, want %v", i, r.b, h, e, r.h)
		}
		if w, e := ip6.Serialise(r.h); e != api.OK || !bytes.Equal(w, r.b) {
			t.Errorf("%d: Serialise(%v) = %x, %d, want %x", i, r.h, w, e, r.b)
		}
		if !ip6.Canonical(r.b) || ip6.Check(r.h) != api.OK || ip6.Size(r.h) != len(r.b) {
			t.Errorf("%d: %x is not canonical, or %v may not be, or has %d bytes", i, r.b, r.h, ip6.Size(r.h))
		}
	}
}

// make60 is a header of zeros but for its version and the kind of the upper layer.
func make60() []byte {
	x := make([]byte, 40)
	x[0], x[6] = 0x60, 2
	return x
}

// 7.1
func TestParseRefuses(t *testing.T) {
	piece := func(place string, n int) []byte {
		return dg(44, append(hx("11 00"+place+"00 00 00 07"), make([]byte, n)...)...)
	}
	chain := func(first int, s ...string) []byte { return dg(first, hx(strings.Join(s, ""))...) }
	sixty := "3c 00" + zeros6
	rows := []struct {
		b    []byte
		want api.Errno
	}{
		{nil, api.ErrShort6}, {[]byte{}, api.ErrShort6}, {[]byte{0x60}, api.ErrShort6}, {head(0, 59, 64)[:8], api.ErrShort6}, {head(0, 59, 64)[:39], api.ErrShort6}, {make([]byte, 39), api.ErrShort6},
		{make([]byte, 40), api.ErrVersion6}, {append([]byte{0x45}, make([]byte, 39)...), api.ErrVersion6}, {append([]byte{0x70}, make([]byte, 39)...), api.ErrVersion6}, {append([]byte{0xe0}, make([]byte, 39)...), api.ErrVersion6}, {append([]byte{0x06}, make([]byte, 39)...), api.ErrVersion6},
		{head(1, 17, 64), api.ErrShort6}, {head(3, 17, 64, 1, 2), api.ErrShort6}, {head(256, 17, 64, 1), api.ErrShort6}, {head(65535, 17, 64, make([]byte, 65495)...), api.ErrShort6}, {head(65496, 17, 64, make([]byte, 65495)...), api.ErrShort6},
		{make([]byte, 65536), api.ErrLong}, {head(0, 59, 64, make([]byte, 65496)...), api.ErrLong}, {bytes.Repeat([]byte{0x60}, 100000), api.ErrLong},
		{dg(0), api.ErrChain}, {dg(43), api.ErrChain}, {dg(60), api.ErrChain}, {dg(44), api.ErrChain}, {dg(60, 59), api.ErrChain}, {dg(0, 59, 0), api.ErrChain}, {chain(60, "3b 00 01 04 00 00 00"), api.ErrChain}, {chain(43, "3b 00 01 04 00 00 00"), api.ErrChain}, {chain(44, "11 00 00 00 00 00 00"), api.ErrChain}, {chain(60, "3b 01", zeros6), api.ErrChain}, {chain(43, "3b 01", zeros6, "00 00 00 00 00 00 00"), api.ErrChain}, {chain(60, "3c 00", zeros6), api.ErrChain}, {chain(60, "2b 00", zeros6, "3b"), api.ErrChain}, {chain(60, "2c 00", zeros6, "3b 00 00 00 00 00 00"), api.ErrChain},
		{head(7, 60, 64, hx("3b 00 01 04 00 00 00 00")...), api.ErrChain}, {head(8, 60, 64, hx("3b 01 01 04 00 00 00 00 01 06 00 00 00 00 00 00")...), api.ErrChain}, // what is behind the length is not taken
		{chain(60, "00 00", zeros6, "3b 00", zeros6), api.ErrFirst}, {chain(60, "00 00", zeros6), api.ErrFirst}, {chain(0, "00 00", zeros6, "3b 00", zeros6), api.ErrFirst}, {chain(43, "00 00", zeros6), api.ErrFirst}, {chain(0, "3c 00", zeros6, "2b 00", zeros6, "00 00", zeros6), api.ErrFirst},
		{dg(60, bytes.Repeat(hx(sixty), 9)...), api.ErrExts}, {dg(60, bytes.Repeat(hx(sixty), 8)...), api.ErrExts}, {dg(43, bytes.Repeat(hx("2b 00"+zeros6), 20)...), api.ErrExts}, {chain(60, strings.Repeat(sixty, 7), "00 00", zeros6), api.ErrFirst}, {chain(60, strings.Repeat(sixty, 7), "3c 00 05 05 00 00 00 00"), api.ErrOption6}, {chain(60, strings.Repeat(sixty, 8), "3b 00 05 05 00 00 00 00"), api.ErrExts}, {chain(60, strings.Repeat(sixty, 7), "2c 00", zeros6), api.ErrChain},
		{chain(0, "3b 00 05 05 00 00 01 00"), api.ErrOption6}, {chain(60, "3b 00 05 05 00 00 01 00"), api.ErrOption6}, {chain(60, "3b 00 01 05 00 00 00 00"), api.ErrOption6}, {chain(60, "3b 00 01 03 00 00 00 07"), api.ErrOption6}, {chain(60, "3b 00 01 03 00 00 00 01"), api.ErrOption6}, {chain(60, "3b 00 00 00 00 00 00 09"), api.ErrOption6}, {chain(60, "3b 00 ff ff 00 00 00 00"), api.ErrOption6}, {chain(60, "3b 00 00 00 00 00 01 01"), api.ErrOption6}, {chain(60, "3b 00 00 00 00 00 02 01 01 01"), api.ErrOption6}, {chain(60, "00 00 05 05 00 00 01 00"), api.ErrOption6},
		{piece("00 01", 0), api.ErrFrag6}, {piece("00 01", 1), api.ErrFrag6}, {piece("00 01", 7), api.ErrFrag6}, {piece("00 01", 9), api.ErrFrag6}, {piece("00 01", 15), api.ErrFrag6}, {piece("00 08", 0), api.ErrFrag6}, {piece("00 09", 0), api.ErrFrag6}, {piece("ff f8", 0), api.ErrFrag6}, {piece("ff f8", 8), api.ErrFrag6}, {piece("ff f9", 8), api.ErrFrag6}, {piece("ff f0", 16), api.ErrFrag6}, {piece("ff f1", 16), api.ErrFrag6}, {piece("ff e9", 24), api.ErrFrag6},
	}
	for i, r := range rows {
		b, whole := roomy(r.b)
		kept := slices.Clone(whole)
		if h, e := ip6.Parse(b); e != r.want || !zero(h) || ip6.Canonical(b) {
			t.Errorf("%d: Parse(%x) = %v, %d, want %d", i, b[:min(len(b), 90)], h, e, r.want)
		}
		if !bytes.Equal(whole, kept) {
			t.Errorf("%d: the bytes were changed", i)
		}
	}
}

// 7.1: the edges that are still taken, and what is let go.
func TestWhatParseLetsGo(t *testing.T) {
	long := make([]byte, 65495)
	rows := []struct {
		b         []byte
		want      api.Ip6
		canonical bool
	}{
		{dg(17, long...), bare(func(h *api.Ip6) { h.Next, h.Data = 17, long }), true},
		{head(0, 59, 64, long...), bare(func(*api.Ip6) {}), false}, {head(0, 59, 64, 1), bare(func(*api.Ip6) {}), false}, {head(2, 17, 64, 1, 2, 3), bare(func(h *api.Ip6) { h.Next, h.Data = 17, []byte{1, 2} }), false},
		{dg(0, hx("3b 00 05 02 00 00 00 00")...), withExts(options(0, opt(5, 0, 0), run(2))), false}, {dg(60, hx("3b 00 00 01 01 ff 00 00")...), withExts(options(60, run(6))), false}, {dg(60, hx("3b 00 00 00 00 00 00 00")...), withExts(options(60, run(6))), false}, {dg(60, hx("3b 00 01 04 01 02 03 04")...), withExts(options(60, run(6))), false}, {dg(60, hx("3b 00 01 00 01 02 07 07")...), withExts(options(60, run(6))), false}, {dg(60, hx("3b 00 00 09 01 00 01 00")...), withExts(options(60, run(1), opt(9, 0), run(2))), true},
		{dg(60, hx("3b 00 01 00 09 00 01 00")...), withExts(options(60, run(2), opt(9), run(2))), true}, {dg(60, hx("3b 00 09 00 09 00 09 00")...), withExts(options(60, opt(9), opt(9), opt(9))), true},
		{dg(44, hx("11 ff 00 00 00 00 00 07")...), bare(func(h *api.Ip6) { h.Next, h.Frag = 17, api.Frag{Has: true, ID: 7} }), false}, {dg(44, hx("11 00 00 06 00 00 00 07")...), bare(func(h *api.Ip6) { h.Next, h.Frag = 17, api.Frag{Has: true, ID: 7} }), false}, {dg(44, hx("11 00 00 0c 00 00 00 07 09")...), bare(func(h *api.Ip6) { h.Next, h.Data, h.Frag = 17, []byte{9}, api.Frag{Has: true, ID: 7, Off: 8} }), false},
		{dg(44, hx("11 00 ff f8 00 00 00 07 01 02 03 04 05 06 07")...), bare(func(h *api.Ip6) {
			h.Next, h.Data, h.Frag = 17, []byte{1, 2, 3, 4, 5, 6, 7}, api.Frag{Has: true, ID: 7, Off: 65528}
		}), true},
		{dg(44, hx("11 00 ff f1 00 00 00 07 01 02 03 04 05 06 07 08")...), bare(func(h *api.Ip6) {
			h.Next, h.Data, h.Frag = 17, []byte{1, 2, 3, 4, 5, 6, 7, 8}, api.Frag{Has: true, More: true, ID: 7, Off: 65520}
		}), true},
	}
	for i, r := range rows {
		h, e := ip6.Parse(r.b)
		if e != api.OK || !same(h, r.want) || ip6.Canonical(r.b) != r.canonical {
			t.Errorf("%d: Parse = %v, %d, canonical: %t", i, h, e, !r.canonical)
		}
		w, e := ip6.Serialise(h)
		if g, f := ip6.Parse(w); e != api.OK || f != api.OK || !same(g, h) || !ip6.Canonical(w) {
			t.Errorf("%d: Serialise = %x, %d, read as %v, %d", i, w, e, g, f)
		}
	}
}

// 7.1: as many headers as may be, with each kind at the end, and a Fragment header that is none of them.
func TestAsManyHeadersAsMayBe(t *testing.T) {
	for n := range 12 {
		for next := range 256 {
			rest := bytes.Repeat(hx("3c 00"+zeros6), n)
			first := 60
			if n == 0 {
				first = next
			} else {
				rest[8*n-8] = byte(next)
			}
			rest = append(rest, hx("3b 00 00 00 00 00 00 00")...)
			b := dg(first, rest...)
			h, e := ip6.Parse(b)
			if g, want := model(b); e != want || !same(h, g) {
				t.Fatalf("%d headers and the kind %d: %v, %d, want %v, %d", n, next, h, e, g, want)
			}
			if next == 17 && n <= 8 && (e != api.OK || len(h.Exts) != n) || next == 44 && n <= 8 && e != api.OK {
				t.Fatalf("%d headers and the kind %d: %d", n, next, e)
			}
		}
	}
}

// 7.1: each word of the header, of an extension header's beginning, of its first option, and of a Fragment header.
func TestEachWord(t *testing.T) {
	whole := dg(0, hx("3c 00 05 02 00 00 01 00 2c 01 09 03 07 07 07 00 c0 02 01 02 01 01 00 00 11 00 00 41 12 34 56 78 01 02 03 04 05 06 07 08")...)
	if h, e := ip6.Parse(whole); e != api.OK || len(h.Exts) != 2 || !h.Frag.Has {
		t.Fatalf("%v, %d", h, e)
	}
	for _, at := range []int{0, 2, 4, 6, 40, 42, 46, 48, 50, 52, 56, 60, 62, 64, 66, 68, 70} {
		b := slices.Clone(whole)
		for v := range 1 << 16 {
			binary.BigEndian.PutUint16(b[at:], uint16(v))
			h, e := ip6.Parse(b)
			if g, want := model(b); e != want || !same(h, g) {
				t.Fatalf("Parse(%x) = %v, %d, want %v, %d", b, h, e, g, want)
			}
		}
	}
}

// 7.1: each length that an extension header may tell, with just so many bytes, one less and one more.
func TestEachLengthOfAHeader(t *testing.T) {
	for _, kind := range []int{0, 43, 60} {
		for n := range 256 {
			for _, more := range []int{-8, -1, 0, 1} {
				rest := make([]byte, max(8*n+8+more, 0))
				if len(rest) > 1 {
					rest[0], rest[1] = 59, byte(n)
				}
				b := dg(kind, rest...)
				h, e := ip6.Parse(b)
				if g, want := model(b); e != want || !same(h, g) || (e == api.OK) != (more >= 0) {
					t.Fatalf("kind %d, length %d, %d more: %d, want %d", kind, n, more, e, want)
				}
			}
		}
	}
}

// 7.1: each place of a fragment with lengths around what may be.
func TestEachPlaceOfAFragment(t *testing.T) {
	for place := range 1 << 16 {
		for _, n := range []int{0, 1, 7, 8, 9, 15, 16} {
			b := dg(44, append([]byte{17, 0, byte(place >> 8), byte(place), 1, 2, 3, 4}, make([]byte, n)...)...)
			h, e := ip6.Parse(b)
			if g, want := model(b); e != want || !same(h, g) {
				t.Fatalf("%04x and %d bytes: %v, %d, want %v, %d", place, n, h, e, g, want)
			}
		}
	}
	for n := 65480; n <= 65487; n++ {
		for place := range 64 {
			b := dg(44, append([]byte{17, 0, 0, byte(place), 1, 2, 3, 4}, make([]byte, n)...)...)
			h, e := ip6.Parse(b)
			if g, want := model(b); e != want || !same(h, g) {
				t.Fatalf("%04x and %d bytes: %d, want %d", place, n, e, want)
			}
		}
	}
}

// 7.1: each beginning of a datagram, with the length that it says, and with that which is there, whatever stands in the room behind.
func TestEachCut(t *testing.T) {
	whole := dg(0, hx("3c 00 05 02 00 00 01 00 2b 01 09 03 07 07 07 00 c0 02 01 02 01 01 00 00 2c 00 01 02 03 04 05 06 11 00 00 40 12 34 56 78 01 02 03")...)
	for n := range len(whole) + 1 {
		for _, fit := range []bool{false, true} {
			b := slices.Clone(whole)
			if fit && n >= 40 {
				b[5] = byte(n - 40)
			}
			h, e := ip6.Parse(b[:n])
			if g, want := model(slices.Clone(b[:n])); e != want || !same(h, g) {
				t.Errorf("%d bytes: %v, %d, want %v, %d", n, h, e, g, want)
			}
			h, e = ip6.Parse(b)
			if g, want := model(slices.Clone(b)); e != want || !same(h, g) {
				t.Errorf("the length %d: %v, %d, want %v, %d", n, h, e, g, want)
			}
		}
	}
}

// 7.1: options: each kind with each length, in room of 6 and 14 bytes, and some kinds in room for all; at its beginning and behind a byte of padding.
func TestEachOption(t *testing.T) {
	for _, n := range []int{0, 1, 32} {
		for v := range 1 << 16 {
			if n == 32 && v>>8 > 2 && v>>8 != 255 {
				continue
			}
			for _, at := range []int{0, 1} {
				rest := make([]byte, 8*n+8)
				rest[0], rest[1], rest[2+at], rest[3+at] = 59, byte(n), byte(v>>8), byte(v)
				b := dg(60, rest...)
				h, e := ip6.Parse(b)
				g, want := model(b)
				if e != want || !same(h, g) {
					t.Fatalf("Parse(%x) = %v, %d, want %v, %d", b, h, e, g, want)
				}
			}
		}
	}
}

// 7.2
func TestWindows(t *testing.T) {
	b, whole := roomy(append(dg(60, hx("2b 01 09 03 07 07 07 00 c0 02 01 02 01 00 05 00 2c 00 01 02 03 04 05 06 11 00 00 40 12 34 56 78 01 02 03")...), 99, 98))
	kept := slices.Clone(whole)
	h, e := ip6.Parse(b)
	if e != api.OK || len(h.Exts) != 2 || len(h.Exts[0].Opts) != 5 || len(h.Data) != 3 {
		t.Fatalf("%v, %d", h, e)
	}
	o := h.Exts[0].Opts
	windows := []struct {
		w  []byte
		at int
	}{{h.Data, 72}, {h.Exts[1].Data, 58}, {o[0].Data, 44}, {o[2].Data, 50}, {o[4].Data, 56}}
	for i, w := range windows {
		if cap(w.w) != len(w.w) {
			t.Errorf("%d: capacity %d", i, cap(w.w))
		}
		_ = append(w.w, 77)
		for k := range w.w {
			w.w[k] = byte(200 + i)
			kept[w.at+k] = byte(200 + i)
		}
	}
	if !bytes.Equal(whole, kept) {
		t.Errorf("%x, want %x", whole, kept)
	}
	first, second := o[1].Data, o[3].Data
	if !slices.Equal(first, []byte{0}) || !slices.Equal(second, []byte{0, 0}) {
		t.Fatalf("runs: %v, %v", first, second)
	}
	first[:cap(first)][0], second[1] = 3, 4
	_, _ = append(first, 5), append(second, 6)
	if !bytes.Equal(whole, kept) || second[0] != 0 {
		t.Errorf("padding is in the memory of %x", whole)
	}
}

// 7.2, 7.5: what Chain answers is windows as well, of b alone.
func TestWindowsOfAChain(t *testing.T) {
	b, whole := roomy(hx("2b 00 09 01 07 01 01 09 11 00 01 02 03 04 05 06 aa bb"))
	kept := slices.Clone(whole)
	l, next, rest, e := ip6.Chain(60, b)
	if e != api.OK || next != 17 || len(l) != 2 || len(l[0].Opts) != 2 || cap(rest) != 2 || cap(l[1].Data) != 6 || cap(l[0].Opts[0].Data) != 1 {
		t.Fatalf("%v, %d, %x, %d", l, next, rest, e)
	}
	l[0].Opts[1].Data[0] = 9
	_, _, _ = append(rest, 77), append(l[1].Data, 78), append(l[0].Opts[0].Data, 79)
	if !bytes.Equal(whole, kept) {
		t.Errorf("something wrote into %x", whole)
	}
	rest[1], l[1].Data[5], l[0].Opts[0].Data[0] = 90, 91, 92
	kept[17], kept[15], kept[4] = 90, 91, 92
	if !bytes.Equal(whole, kept) {
		t.Errorf("%x, want %x", whole, kept)
	}
	if _, _, rest, e := ip6.Chain(17, b); e != api.OK || len(rest) != len(b) || cap(rest) != len(b) || &rest[0] != &b[0] {
		t.Errorf("without a header: %x, %d", rest, e)
	}
}

// 7.7, 7.8, W3: whatever Parse takes has one form, of as many bytes.
func TestOneFormOfBytes(t *testing.T) {
	r := rand.New(rand.NewSource(3))
	counts := map[api.Errno]int{}
	canonical := 0
	for range 150000 {
		b, whole := roomy(someBytes(r))
		kept := slices.Clone(whole)
		h, e := ip6.Parse(b)
		g, want := model(b)
		if e != want || !same(h, g) {
			t.Fatalf("Parse(%x) = %v, %d, want %v, %d", b, h, e, g, want)
		}
		counts[e]++
		is := false
		if e == api.OK {
			w, e := ip6.Serialise(h)
			again, f := ip6.Parse(w)
			if e != api.OK || f != api.OK || ip6.Check(h) != api.OK || !same(again, h) || !ip6.Canonical(w) || !bytes.Equal(w, modelBytes(h)) {
				t.Fatalf("Serialise(Parse(%x)) = %x, %d, read as %v, %d", b, w, e, again, f)
			}
			if said := 40 + int(binary.BigEndian.Uint16(b[4:])); len(w) != said || ip6.Size(h) != said {
				t.Fatalf("%x became %d bytes", b, len(w))
			}
			is = bytes.Equal(w, b)
		} else if !zero(h) {
			t.Fatalf("Parse(%x) = %v beside %d", b, h, e)
		}
		if ip6.Canonical(b) != is {
			t.Fatalf("Canonical(%x) = %t", b, !is)
		}
		if is {
			canonical++
		}
		if !bytes.Equal(whole, kept) {
			t.Fatalf("%x was changed", b)
		}
	}
	for _, e := range []api.Errno{api.OK, api.ErrShort6, api.ErrVersion6, api.ErrChain, api.ErrFirst, api.ErrExts, api.ErrOption6, api.ErrFrag6} {
		if counts[e] < 1000 {
			t.Errorf("error %d came only %d times", e, counts[e])
		}
	}
	if canonical < 1000 || canonical > counts[api.OK]-1000 {
		t.Errorf("canonical were %d of %d", canonical, counts[api.OK])
	}
}
