package ip6_test

import (
	"bytes"
	"math/rand"
	"slices"
	"testing"

	"weir/api"
	"weir/ip6"
)

// 7.6: each hop limit, until none is left; nothing else is looked at or changed.
func TestHop(t *testing.T) {
	for _, rest := range [][]byte{nil, {1, 2, 3}, make([]byte, 70000)} {
		b, whole := roomy(head(9999, 60, 255, rest...))
		for hop := 254; hop >= 1; hop-- {
			want := slices.Clone(whole)
			want[7] = byte(hop)
			if e := ip6.Hop(b); e != api.OK || !bytes.Equal(whole, want) {
				t.Fatalf("the hop limit %d: %d", hop, e)
			}
		}
		for _, hop := range []byte{1, 0} {
			b[7] = hop
			kept := slices.Clone(whole)
			if e := ip6.Hop(b); e != api.ErrHop6 || !bytes.Equal(whole, kept) {
				t.Fatalf("the hop limit %d: %d", hop, e)
			}
		}
	}
}

// 7.6
func TestHopRefuses(t *testing.T) {
	four := head(0, 59, 64)
	four[0] = 0x45
	none := head(0, 59, 0)
	none[0] = 0x50
	rows := []struct {
		b    []byte
		want api.Errno
	}{
		{nil, api.ErrShort6}, {[]byte{}, api.ErrShort6}, {head(0, 59, 64)[:1], api.ErrShort6}, {head(0, 59, 64)[:8], api.ErrShort6}, {head(0, 59, 64)[:39], api.ErrShort6}, {head(0, 59, 0)[:39], api.ErrShort6}, {four[:39], api.ErrShort6},
		{four, api.ErrVersion6}, {none, api.ErrVersion6}, {make([]byte, 40), api.ErrVersion6}, {bytes.Repeat([]byte{0xff}, 100), api.ErrVersion6},
		{head(0, 59, 0), api.ErrHop6}, {head(0, 59, 1), api.ErrHop6}, {head(0, 59, 2), api.OK},
	}
	for i, r := range rows {
		b, whole := roomy(r.b)
		want := slices.Clone(whole)
		if r.want == api.OK {
			want[7]--
		}
		if e := ip6.Hop(b); e != r.want || !bytes.Equal(whole, want) {
			t.Errorf("%d: Hop = %d, want %d", i, e, r.want)
		}
	}
}

// 7.6: each first byte.
func TestHopOfEachVersion(t *testing.T) {
	for v := range 256 {
		b := head(0, 59, 64)
		b[0] = byte(v)
		want, hop := api.ErrVersion6, byte(64)
		if v>>4 == 6 {
			want, hop = api.OK, 63
		}
		if e := ip6.Hop(b); e != want || b[7] != hop || b[0] != byte(v) {
			t.Errorf("%02x: %d, the hop limit is %d", v, e, b[7])
		}
	}
}

// 7.9: what goes over a hop stays what it was, and canonical.
func TestHopOfSome(t *testing.T) {
	r := rand.New(rand.NewSource(5))
	canonical := 0
	for range 50000 {
		b := someBytes(r)
		if r.Intn(2) == 0 {
			b = modelBytes(someDatagram(r))
		}
		kept := slices.Clone(b)
		was, refused := ip6.Parse(slices.Clone(b))
		is := ip6.Canonical(b)
		if ip6.Hop(b) != api.OK {
			if !bytes.Equal(b, kept) {
				t.Fatalf("%x became %x", kept, b)
			}
			continue
		}
		was.Hop--
		h, e := ip6.Parse(b)
		if refused != e || e == api.OK && !same(h, was) || ip6.Canonical(b) != is {
			t.Fatalf("behind Hop %x is %v, %d, want %v, %d", b, h, e, was, refused)
		}
		if is {
			canonical++
		}
	}
	if canonical < 10000 {
		t.Errorf("only %d were canonical", canonical)
	}
}

// 7.9: as often as the hop limit less one, and no more.
func TestHopsOfADatagram(t *testing.T) {
	for hop := range 256 {
		b := modelBytes(bare(func(h *api.Ip6) { h.Hop, h.Exts = hop, []api.Ext{options(0, run(6))} }))
		n := 0
		for ; ip6.Hop(b) == api.OK; n++ {
			if !ip6.Canonical(b) {
				t.Fatalf("%x", b)
			}
		}
		if n != max(hop-1, 0) || ip6.Hop(b) != api.ErrHop6 {
			t.Errorf("the hop limit %d: %d hops", hop, n)
		}
	}
}
