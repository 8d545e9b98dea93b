package ip4_test

import (
	"bytes"
	"encoding/binary"
	"math"
	"math/rand"
	"slices"
	"testing"

	"weir/api"
	"weir/ip4"
)

// 6.3, 6.5, 6.6: the bytes of datagrams, read and written.
func TestBytesOfDatagrams(t *testing.T) {
	rows := []struct {
		b string
		h api.Ip4
	}{
		{plain, hi()},
		{"45 00 00 14 00 00 00 00 00 00 ba eb 00 00 00 00 00 00 00 00", api.Ip4{Src: four(0, 0, 0, 0), Dst: four(0, 0, 0, 0)}},
		{"45 ff 00 14 ff ff 40 00 ff ff 79 ec ff ff ff ff ff ff ff ff", api.Ip4{Tos: 255, ID: 65535, DF: true, TTL: 255, Proto: 255, Src: four(255, 255, 255, 255), Dst: four(255, 255, 255, 255)}},
		{"45 12 00 1c 34 56 20 05 78 9a dd c7 01 02 03 04 05 06 07 08 01 02 03 04 05 06 07 08", api.Ip4{Tos: 18, ID: 0x3456, MF: true, Off: 40, TTL: 0x78, Proto: 0x9a, Src: four(1, 2, 3, 4), Dst: four(5, 6, 7, 8), Data: []byte{1, 2, 3, 4, 5, 6, 7, 8}}},
		{"45 00 00 17 00 00 1f fd 40 11 46 d7 0a 00 00 01 0a 00 00 02 61 62 63", turned(func(h *api.Ip4) { h.Off, h.Data = 65512, []byte("abc") })},
		{"47 00 00 1e 00 00 00 00 40 01 57 d2 0a 00 00 01 0a 00 00 02 07 03 04 08 02 00 00 00 68 69", turned(func(h *api.Ip4) { h.Proto, h.Opts = 1, []api.Opt{opt(7, 4), opt(8)} })},
	}
	for i, r := range rows {
		b := hx(r.b)
		if h, e := ip4.Parse(b); e != api.OK || !same(h, r.h) {
			t.Errorf("%d: Parse(%x) = %v, %d, want %v", i, b, h, e, r.h)
		}
		if w, e := ip4.Serialise(r.h); e != api.OK || !bytes.Equal(w, b) {
			t.Errorf("%d: Serialise(%v) = %x, %d, want %x", i, r.h, w, e, b)
		}
		if !ip4.Canonical(b) || ip4.Check(r.h) != api.OK {
			t.Errorf("%d: %x is not canonical, or %v may not be", i, b, r.h)
		}
	}
}

// 6.3
func TestParseRefuses(t *testing.T) {
	patched := func(at int, v ...byte) []byte {
		b := hx(plain)
		copy(b[at:], v)
		return b
	}
	rows := []struct {
		b    []byte
		want api.Errno
	}{
		{nil, api.ErrIp4Short}, {[]byte{}, api.ErrIp4Short}, {hx(plain)[:1], api.ErrIp4Short}, {hx(plain)[:19], api.ErrIp4Short}, {hx(plain)[:20], api.ErrIp4Total}, {hx(plain)[:21], api.ErrIp4Total},
		{append([]byte{0x60}, make([]byte, 19)...), api.ErrIp4Version}, {append([]byte{0x44}, make([]byte, 19)...), api.ErrIp4Head}, {append([]byte{0x46}, make([]byte, 19)...), api.ErrIp4Head}, {append([]byte{0x45}, make([]byte, 19)...), api.ErrIp4Total}, {make([]byte, 20), api.ErrIp4Version}, {append([]byte{0x40}, make([]byte, 60)...), api.ErrIp4Head},
		{patched(0, 0x55), api.ErrIp4Version}, {patched(0, 0x35), api.ErrIp4Version}, {patched(0, 0x05), api.ErrIp4Version}, {patched(0, 0x46), api.ErrIp4Head}, {patched(0, 0x4f), api.ErrIp4Head}, {patched(0, 0x44), api.ErrIp4Head}, {patched(0, 0x41), api.ErrIp4Head},
		{patched(2, 0, 0), api.ErrIp4Total}, {patched(2, 0, 19), api.ErrIp4Total}, {patched(2, 0, 23), api.ErrIp4Total}, {patched(2, 1, 22), api.ErrIp4Total}, {patched(2, 0xff, 0xff), api.ErrIp4Total}, {patched(2, 0, 20), api.ErrIp4Sum}, {patched(2, 0, 21), api.ErrIp4Sum},
		{patched(8, 65), api.ErrIp4Sum}, {patched(10, 0, 0), api.ErrIp4Sum}, {patched(10, 0xff, 0xff), api.ErrIp4Sum}, {patched(10, 0x66, 0xd6), api.ErrIp4Sum}, {patched(19, 3), api.ErrIp4Sum},
		{summed(patched(6, 0x20)), api.ErrIp4Frag}, {summed(patched(6, 0x1f, 0xff)), api.ErrIp4Frag}, {summed(patched(6, 0x1f, 0xfe)), api.ErrIp4Frag},
		{summed(hx("45 00 00 14 00 00 20 00 40 11 00 00 0a 00 00 01 0a 00 00 02")), api.ErrIp4Frag}, {summed(hx("45 00 00 14 00 00 1f fe 40 11 00 00 0a 00 00 01 0a 00 00 02")), api.ErrIp4Frag}, {summed(hx("45 00 00 18 00 00 1f fd 40 11 00 00 0a 00 00 01 0a 00 00 02 61 62 63 64")), api.ErrIp4Frag}, {summed(hx("45 00 00 1c 00 00 3f fd 40 11 00 00 0a 00 00 01 0a 00 00 02 01 02 03 04 05 06 07 08")), api.ErrIp4Frag},
		{summed(hx("46 00 00 18 00 00 00 00 40 11 00 00 0a 00 00 01 0a 00 00 02 07 05 00 00")), api.ErrIp4Option}, {summed(hx("46 00 00 18 00 00 00 00 40 11 00 00 0a 00 00 01 0a 00 00 02 01 01 01 07")), api.ErrIp4Option}, {summed(hx("46 00 00 1c 00 00 00 00 40 11 00 00 0a 00 00 01 0a 00 00 02 07 05 00 00 00 00 00 00")), api.ErrIp4Option}, {summed(hx("46 00 00 18 00 00 20 00 40 11 00 00 0a 00 00 01 0a 00 00 02 07 01 00 00")), api.ErrIp4Option},
		{make([]byte, 65536), api.ErrLong}, {append(hx(plain), make([]byte, 65514)...), api.ErrLong}, {bytes.Repeat([]byte{0xff}, 100000), api.ErrLong},
	}
	for i, r := range rows {
		b, whole := roomy(r.b)
		kept := slices.Clone(whole)
		if h, e := ip4.Parse(b); e != r.want || !zero(h) || ip4.Canonical(b) {
			t.Errorf("%d: Parse(%x) = %v, %d, want %d", i, b[:min(len(b), 30)], h, e, r.want)
		}
		if e := ip4.Hop(b); e != r.want || !bytes.Equal(whole, kept) {
			t.Errorf("%d: Hop(%x) = %d, want %d", i, b[:min(len(b), 30)], e, r.want)
		}
	}
	if h, e := ip4.Parse(append(hx(plain), make([]byte, 65513)...)); e != api.OK || !same(h, hi()) {
		t.Errorf("65535 bytes: %v, %d", h, e)
	}
}

// 6.3: of several faults the first in the document's order is told.
func TestParseOrder(t *testing.T) {
	faults := []struct {
		lay  func([]byte) []byte
		want api.Errno
	}{
		{func(b []byte) []byte { return append(b, make([]byte, 65536)...) }, api.ErrLong},
		{func(b []byte) []byte { b[0] ^= 0x20; return b }, api.ErrIp4Version},
		{func(b []byte) []byte { b[0] &= 0xf3; return b }, api.ErrIp4Head},
		{func(b []byte) []byte { b[3] = 21; return b }, api.ErrIp4Total},
		{func(b []byte) []byte { b[10] ^= 1; return b }, api.ErrIp4Sum},
		{func(b []byte) []byte { b[20], b[21] = 7, 9; return b }, api.ErrIp4Option},
		{func(b []byte) []byte { b[6] |= 0x20; return b }, api.ErrIp4Frag},
	}
	for set := range 1 << len(faults) {
		b := hx("46 00 00 1a 00 00 00 00 40 11 00 00 0a 00 00 01 0a 00 00 02 00 00 00 00 68 69")
		want := api.OK
		for _, i := range []int{6, 5} {
			if set>>i&1 == 1 {
				b, want = faults[i].lay(b), faults[i].want
			}
		}
		summed(b)
		for i := 4; i >= 0; i-- {
			if set>>i&1 == 1 {
				b, want = faults[i].lay(b), faults[i].want
			}
		}
		h, e := ip4.Parse(b)
		if e != want || want != api.OK && !zero(h) {
			t.Errorf("faults %07b: Parse = %d, want %d", set, e, want)
		}
		if short, e := ip4.Parse(b[:19]); e != api.ErrIp4Short || !zero(short) {
			t.Errorf("faults %07b, 19 bytes: Parse = %d", set, e)
		}
	}
}

// 6.3: what is let go.
func TestWhatParseLetsGo(t *testing.T) {
	rows := []struct {
		b    []byte
		want api.Ip4
	}{
		{append(hx(plain), 0), hi()}, {append(hx(plain), 1, 2), hi()},
		{summed(hx("45 00 00 16 00 00 80 00 40 11 00 00 0a 00 00 01 0a 00 00 02 68 69")), hi()},
		{summed(hx("46 00 00 1a 00 00 00 00 40 11 00 00 0a 00 00 01 0a 00 00 02 00 00 00 00 68 69")), hi()},
		{summed(hx("46 00 00 1a 00 00 00 00 40 11 00 00 0a 00 00 01 0a 00 00 02 01 01 01 01 68 69")), hi()},
		{summed(hx("46 00 00 1a 00 00 00 00 40 11 00 00 0a 00 00 01 0a 00 00 02 00 07 01 07 68 69")), hi()},
		{summed(hx("47 00 00 1e 00 00 00 00 40 11 00 00 0a 00 00 01 0a 00 00 02 07 03 04 00 00 00 00 00 68 69")), turned(func(h *api.Ip4) { h.Opts = []api.Opt{opt(7, 4)} })},
		{summed(hx("46 00 00 1a 00 00 00 00 40 11 00 00 0a 00 00 01 0a 00 00 02 01 07 03 04 68 69")), turned(func(h *api.Ip4) { h.Opts = []api.Opt{opt(7, 4)} })},
		{summed(hx("46 00 00 1a 00 00 00 00 40 11 00 00 0a 00 00 01 0a 00 00 02 07 03 04 01 68 69")), turned(func(h *api.Ip4) { h.Opts = []api.Opt{opt(7, 4)} })},
		{summed(hx("46 00 00 1a 00 00 00 00 40 11 00 00 0a 00 00 01 0a 00 00 02 07 02 00 09 68 69")), turned(func(h *api.Ip4) { h.Opts = []api.Opt{opt(7)} })},
		{hx("45 00 00 14 66 d7 00 00 40 11 ff ff 0a 00 00 01 0a 00 00 02"), turned(func(h *api.Ip4) { h.ID, h.Data = 0x66d7, nil })}, // the right sum is 0 as well
	}
	for i, r := range rows {
		h, e := ip4.Parse(r.b)
		if e != api.OK || !same(h, r.want) {
			t.Errorf("%d: Parse(%x) = %v, %d", i, r.b, h, e)
		}
		if ip4.Canonical(r.b) {
			t.Errorf("%d: %x is canonical", i, r.b)
		}
		w, e := ip4.Serialise(h)
		if g, f := ip4.Parse(w); e != api.OK || f != api.OK || !same(g, h) || !ip4.Canonical(w) {
			t.Errorf("%d: Serialise = %x, %d, read as %v, %d", i, w, e, g, f)
		}
	}
}

// 6.3: each first byte, each total length, each word of flags and offset, each sum.
func TestEachWord(t *testing.T) {
	for _, at := range []int{0, 2, 6, 10} {
		for v := range 1 << 16 {
			b := hx("47 00 00 24 12 34 40 03 05 06 00 00 0a 00 00 01 0a 00 00 02 07 03 04 09 04 01 02 00 01 02 03 04 05 06 07 08 09 0a")
			summed(b)
			binary.BigEndian.PutUint16(b[at:], uint16(v))
			if at != 10 && int(b[0]%16)*4 <= len(b) {
				summed(b)
			}
			h, e := ip4.Parse(b)
			if g, want := model(b); e != want || !same(h, g) {
				t.Fatalf("Parse(%x) = %v, %d, want %v, %d", b, h, e, g, want)
			}
		}
	}
}

// 6.3: each beginning of a datagram, whatever stands in the room behind it.
func TestEachCut(t *testing.T) {
	b := modelBytes(turned(func(h *api.Ip4) { h.Opts = []api.Opt{opt(7, 4), opt(8)} }))
	for n := range len(b) + 1 {
		h, e := ip4.Parse(b[:n])
		if g, want := model(slices.Clone(b[:n])); e != want || !same(h, g) {
			t.Errorf("%d bytes: %v, %d, want %v, %d", n, h, e, g, want)
		}
	}
}

// 6.3, 6.11: Data and the options' data are windows.
func TestDataIsAWindow(t *testing.T) {
	for n := range 4 {
		b, whole := roomy(append(modelBytes(turned(func(h *api.Ip4) { h.Opts, h.Data = []api.Opt{opt(7, 4, 5), opt(8, 6)}, []byte{1, 2, 3}[:n] })), 99, 98))
		kept := slices.Clone(whole)
		h, e := ip4.Parse(b)
		if e != api.OK || len(h.Data) != n || cap(h.Data) != n || len(h.Opts) != 2 || cap(h.Opts[0].Data) != 2 || cap(h.Opts[1].Data) != 1 {
			t.Fatalf("%x: %v, %d, capacity %d", b, h, e, cap(h.Data))
		}
		_, _, _ = append(h.Data, 77), append(h.Opts[0].Data, 78), append(h.Opts[1].Data, 79)
		if !bytes.Equal(whole, kept) {
			t.Fatalf("something wrote into %x", whole)
		}
		for i := range h.Data {
			h.Data[i] = 90
			if b[28+i] != 90 {
				t.Errorf("Data %d is not in the memory of %x", i, b)
			}
		}
		h.Opts[0].Data[1], h.Opts[1].Data[0] = 91, 92
		if b[23] != 91 || b[26] != 92 {
			t.Errorf("the options' data are not in the memory of %x", b)
		}
	}
}

// 6.4
func TestCheck(t *testing.T) {
	type row struct {
		h    api.Ip4
		want api.Errno
	}
	rows := []row{
		{hi(), api.OK}, {api.Ip4{}, api.ErrIp4Field}, {api.Ip4{Src: four(0, 0, 0, 0), Dst: four(0, 0, 0, 0)}, api.OK},
		{turned(func(h *api.Ip4) { h.Off = 4 }), api.ErrIp4Field}, {turned(func(h *api.Ip4) { h.Off = 7 }), api.ErrIp4Field}, {turned(func(h *api.Ip4) { h.Off = 8 }), api.OK}, {turned(func(h *api.Ip4) { h.Off = 65512 }), api.OK}, {turned(func(h *api.Ip4) { h.Off = 65520 }), api.ErrIp4Frag}, {turned(func(h *api.Ip4) { h.Off = 65528 }), api.ErrIp4Frag}, {turned(func(h *api.Ip4) { h.Off, h.Data = 65520, nil }), api.ErrIp4Frag}, {turned(func(h *api.Ip4) { h.Off, h.Data = 65512, nil }), api.OK}, {turned(func(h *api.Ip4) { h.Off = 65529 }), api.ErrIp4Field}, {turned(func(h *api.Ip4) { h.Off = 65536 }), api.ErrIp4Field}, {turned(func(h *api.Ip4) { h.Off = 65527 }), api.ErrIp4Field},
		{turned(func(h *api.Ip4) { h.Src = api.IP{} }), api.ErrIp4Field}, {turned(func(h *api.Ip4) { h.Dst = api.IP{} }), api.ErrIp4Field}, {turned(func(h *api.Ip4) { h.Src.V = 6 }), api.ErrIp4Field}, {turned(func(h *api.Ip4) { h.Dst.V = 6 }), api.ErrIp4Field}, {turned(func(h *api.Ip4) { h.Src.V = 5 }), api.ErrIp4Field}, {turned(func(h *api.Ip4) { h.Dst.V = -4 }), api.ErrIp4Field},
		{turned(func(h *api.Ip4) { h.MF = true }), api.ErrIp4Frag}, {turned(func(h *api.Ip4) { h.MF, h.Data = true, nil }), api.ErrIp4Frag}, {turned(func(h *api.Ip4) { h.MF, h.Data = true, make([]byte, 7) }), api.ErrIp4Frag}, {turned(func(h *api.Ip4) { h.MF, h.Data = true, make([]byte, 8) }), api.OK}, {turned(func(h *api.Ip4) { h.MF, h.Data = true, make([]byte, 9) }), api.ErrIp4Frag}, {turned(func(h *api.Ip4) { h.MF, h.DF, h.Data = true, true, make([]byte, 16) }), api.OK}, {turned(func(h *api.Ip4) { h.MF, h.Off, h.Data = true, 65504, make([]byte, 8) }), api.OK}, {turned(func(h *api.Ip4) { h.MF, h.Off, h.Data = true, 65512, make([]byte, 8) }), api.ErrIp4Frag},
		{turned(func(h *api.Ip4) { h.Off, h.Data = 65512, []byte("abc") }), api.OK}, {turned(func(h *api.Ip4) { h.Off, h.Data = 65512, []byte("abcd") }), api.ErrIp4Frag}, {turned(func(h *api.Ip4) { h.Off, h.Data = 8, make([]byte, 65507) }), api.OK}, {turned(func(h *api.Ip4) { h.Off, h.Data = 8, make([]byte, 65508) }), api.ErrIp4Frag},
		{turned(func(h *api.Ip4) { h.Opts = []api.Opt{opt(1)} }), api.ErrIp4Option}, {turned(func(h *api.Ip4) { h.Opts = []api.Opt{opt(256)} }), api.ErrIp4Option}, {turned(func(h *api.Ip4) { h.Opts = []api.Opt{opt(7, make([]byte, 38)...)} }), api.OK}, {turned(func(h *api.Ip4) { h.Opts = []api.Opt{opt(7, make([]byte, 39)...)} }), api.ErrIp4Option}, {turned(func(h *api.Ip4) { h.Opts = slices.Repeat([]api.Opt{opt(7, 1, 2)}, 11) }), api.ErrIp4Option},
		{turned(func(h *api.Ip4) { h.Data = make([]byte, 65515) }), api.OK}, {turned(func(h *api.Ip4) { h.Data = make([]byte, 65516) }), api.ErrIp4Total}, {turned(func(h *api.Ip4) { h.Opts, h.Data = []api.Opt{opt(7)}, make([]byte, 65511) }), api.OK}, {turned(func(h *api.Ip4) { h.Opts, h.Data = []api.Opt{opt(7)}, make([]byte, 65512) }), api.ErrIp4Total}, {turned(func(h *api.Ip4) { h.Opts, h.Data = []api.Opt{opt(7, make([]byte, 38)...)}, make([]byte, 65475) }), api.OK}, {turned(func(h *api.Ip4) { h.Opts, h.Data = []api.Opt{opt(7, make([]byte, 38)...)}, make([]byte, 65476) }), api.ErrIp4Total}, {turned(func(h *api.Ip4) { h.Data = make([]byte, 200000) }), api.ErrIp4Total},
	}
	for i := 4; i < 16; i++ {
		rows = append(rows, row{turned(func(h *api.Ip4) { h.Src.A[i] = 1 }), api.ErrIp4Field}, row{turned(func(h *api.Ip4) { h.Dst.A[i] = 128 }), api.ErrIp4Field})
	}
	for _, n := range []int{math.MinInt, -1 << 32, -65536, -256, -8, -1, 65536, 65600, 1 << 32, 1<<32 + 8, math.MaxInt - 7, math.MaxInt} {
		rows = append(rows, row{turned(func(h *api.Ip4) { h.Tos = n }), api.ErrIp4Field}, row{turned(func(h *api.Ip4) { h.ID = n }), api.ErrIp4Field}, row{turned(func(h *api.Ip4) { h.Off = n }), api.ErrIp4Field}, row{turned(func(h *api.Ip4) { h.TTL = n }), api.ErrIp4Field}, row{turned(func(h *api.Ip4) { h.Proto = n }), api.ErrIp4Field}, row{turned(func(h *api.Ip4) { h.Src.V = n }), api.ErrIp4Field}, row{turned(func(h *api.Ip4) { h.Dst.V = n }), api.ErrIp4Field})
	}
	for _, n := range []int{0, 1, 254, 255, 256, 257} {
		want := api.OK
		if n > 255 {
			want = api.ErrIp4Field
		}
		rows = append(rows, row{turned(func(h *api.Ip4) { h.Tos = n }), want}, row{turned(func(h *api.Ip4) { h.TTL = n }), want}, row{turned(func(h *api.Ip4) { h.Proto = n }), want}, row{turned(func(h *api.Ip4) { h.ID = n }), api.OK}, row{turned(func(h *api.Ip4) { h.ID = 65535 - n }), api.OK})
	}
	for i, r := range rows {
		if e := ip4.Check(r.h); e != r.want {
			t.Errorf("%d: Check = %d, want %d", i, e, r.want)
		}
		b, e := ip4.Serialise(r.h)
		if e != r.want || e != api.OK && b != nil || e == api.OK && !bytes.Equal(b, modelBytes(r.h)) {
			t.Errorf("%d: Serialise has %d bytes, %d, want %d", i, len(b), e, r.want)
		}
		if h, e := ip4.Parse(b); r.want == api.OK && (e != api.OK || !same(h, r.h) || !ip4.Canonical(b)) {
			t.Errorf("%d: not read again: %d", i, e)
		}
	}
}

// 6.4, 6.5: of several faults the first in the document's order is told.
func TestCheckOrder(t *testing.T) {
	faults := []struct {
		lay  func(*api.Ip4)
		want api.Errno
	}{
		{func(h *api.Ip4) { h.Tos = 256 }, api.ErrIp4Field}, {func(h *api.Ip4) { h.ID = -1 }, api.ErrIp4Field}, {func(h *api.Ip4) { h.TTL = 256 }, api.ErrIp4Field}, {func(h *api.Ip4) { h.Dst.A[15] = 1 }, api.ErrIp4Field},
		{func(h *api.Ip4) { h.Opts = append(h.Opts, opt(1)) }, api.ErrIp4Option}, {func(h *api.Ip4) { h.Data = make([]byte, 65516) }, api.ErrIp4Total}, {func(h *api.Ip4) { h.MF = true }, api.ErrIp4Frag}, {func(h *api.Ip4) { h.Off = 65528 }, api.ErrIp4Frag},
	}
	for set := range 1 << len(faults) {
		h, want := hi(), api.OK
		for i := len(faults) - 1; i >= 0; i-- {
			if set>>i&1 == 1 {
				faults[i].lay(&h)
				want = faults[i].want
			}
		}
		if e := ip4.Check(h); e != want {
			t.Errorf("faults %b: Check = %d, want %d", set, e, want)
		}
		if b, e := ip4.Serialise(h); e != want || e != api.OK && b != nil {
			t.Errorf("faults %b: Serialise = %d, want %d", set, e, want)
		}
	}
}

// 6.6: nothing but what Serialise writes is canonical: a byte more, a byte less, a bit turned over in the header.
func TestCanonical(t *testing.T) {
	r := rand.New(rand.NewSource(2))
	for range 300 {
		h := someDatagram(r)
		b := modelBytes(h)
		if !ip4.Canonical(b) || ip4.Canonical(append(slices.Clone(b), 0)) || ip4.Canonical(b[:len(b)-1]) {
			t.Fatalf("%x, with a byte more, with one less", b)
		}
		for k := range 8 * (len(b) - len(h.Data)) {
			b[k/8] ^= 128 >> (k % 8)
			g, e := model(b)
			want := e == api.OK && bytes.Equal(modelBytes(g), b)
			if ip4.Canonical(b) != want {
				t.Fatalf("bit %d turned over: %x is canonical: %t", k, b, !want)
			}
			b[k/8] ^= 128 >> (k % 8)
		}
	}
	if ip4.Canonical(nil) || ip4.Canonical(make([]byte, 65536)) {
		t.Error("no byte, and too many")
	}
}

// 6.9, W3: whatever Parse takes has one form.
func TestOneFormOfBytes(t *testing.T) {
	r := rand.New(rand.NewSource(3))
	counts := map[api.Errno]int{}
	canonical := 0
	for range 200000 {
		b, whole := roomy(someBytes(r))
		kept := slices.Clone(whole)
		h, e := ip4.Parse(b)
		g, want := model(b)
		if e != want || !same(h, g) {
			t.Fatalf("Parse(%x) = %v, %d, want %v, %d", b, h, e, g, want)
		}
		counts[e]++
		is := false
		if e == api.OK {
			w, e := ip4.Serialise(h)
			again, f := ip4.Parse(w)
			if e != api.OK || f != api.OK || !same(again, h) || !ip4.Canonical(w) || !bytes.Equal(w, modelBytes(h)) {
				t.Fatalf("Serialise(Parse(%x)) = %x, %d, read as %v, %d", b, w, e, again, f)
			}
			is = bytes.Equal(w, b)
		} else if !zero(h) {
			t.Fatalf("Parse(%x) = %v beside %d", b, h, e)
		}
		if ip4.Canonical(b) != is {
			t.Fatalf("Canonical(%x) = %t", b, !is)
		}
		if is {
			canonical++
		}
		if !bytes.Equal(whole, kept) {
			t.Fatalf("%x was changed", b)
		}
	}
	for _, e := range []api.Errno{api.OK, api.ErrIp4Short, api.ErrIp4Version, api.ErrIp4Head, api.ErrIp4Total, api.ErrIp4Sum, api.ErrIp4Option, api.ErrIp4Frag} {
		if counts[e] < 1000 {
			t.Errorf("error %d came only %d times", e, counts[e])
		}
	}
	if canonical < 1000 || canonical > counts[api.OK]-1000 {
		t.Errorf("canonical were %d of %d", canonical, counts[api.OK])
	}
}

// 6.9
func TestOneFormOfValues(t *testing.T) {
	r := rand.New(rand.NewSource(4))
	for range 50000 {
		h := someDatagram(r)
		b, e := ip4.Serialise(h)
		if e != api.OK || ip4.Check(h) != api.OK || !bytes.Equal(b, modelBytes(h)) {
			t.Fatalf("Serialise(%v) = %x, %d", h, b, e)
		}
		if g, e := ip4.Parse(b); e != api.OK || !same(h, g) || !ip4.Canonical(b) {
			t.Fatalf("Parse(Serialise(%v)) = %v, %d", h, g, e)
		}
	}
}

// 6.9: where the right sum is 0, 0 is what is written, and ffff is read as well.
func TestBothZeros(t *testing.T) {
	h := hi()
	for h.ID = 0; h.ID < 65536; h.ID++ {
		b, e := ip4.Serialise(h)
		if e != api.OK || b[10] == 0xff && b[11] == 0xff {
			t.Fatalf("%v: %x, %d", h, b, e)
		}
		if b[10]|b[11] == 0 {
			b[10], b[11] = 0xff, 0xff
			if g, e := ip4.Parse(b); e != api.OK || !same(g, h) || ip4.Canonical(b) {
				t.Errorf("%x: %v, %d", b, g, e)
			}
			return
		}
	}
	t.Error("no sum was 0")
}

// 6.8
func TestDatagramIsLeft(t *testing.T) {
	data, whole := roomy([]byte{1, 2, 3})
	opts := []api.Opt{opt(7, 4, 5), opt(8), opt(9, 9)}
	h := turned(func(h *api.Ip4) { h.Opts, h.Data = opts[:2], data })
	keptData, want := slices.Clone(whole), modelBytes(h)
	b, e := ip4.Serialise(h)
	if e != api.OK || ip4.Check(h) != api.OK || !bytes.Equal(b, want) {
		t.Fatalf("%x, %d", b, e)
	}
	for i := range b[:cap(b)] {
		b[:cap(b)][i] = 0xee
	}
	if !bytes.Equal(whole, keptData) || !sameOpts(opts, []api.Opt{opt(7, 4, 5), opt(8), opt(9, 9)}) {
		t.Error("Serialise's answer shares the datagram's memory")
	}
	if c, e := ip4.Serialise(h); e != api.OK || !bytes.Equal(c, want) {
		t.Errorf("the second time: %x, %d", c, e)
	}
}
