package ip4_test

import (
	"bytes"
	"encoding/binary"
	"math/rand"
	"slices"
	"testing"

	"weir/api"
	"weir/ip4"
)

// 6.7
func TestHop(t *testing.T) {
	b := hx(plain)
	if e := ip4.Hop(b); e != api.OK || !bytes.Equal(b, hx("45 00 00 16 00 00 00 00 3f 11 67 d5 0a 00 00 01 0a 00 00 02 68 69")) {
		t.Errorf("Hop leaves %x, %d", b, e)
	}
}

// 6.7: until no hop is left.
func TestHopToTheEnd(t *testing.T) {
	b, whole := roomy(modelBytes(turned(func(h *api.Ip4) { h.TTL, h.Opts = 255, []api.Opt{opt(7, 4)} })))
	for ttl := 254; ttl >= 1; ttl-- {
		want := slices.Clone(whole)
		want[8] = byte(ttl)
		summed(want)
		if e := ip4.Hop(b); e != api.OK || !bytes.Equal(whole, want) {
			t.Fatalf("TTL %d: %x, %d, want %x", ttl, whole, e, want)
		}
	}
	kept := slices.Clone(whole)
	if e := ip4.Hop(b); e != api.ErrIp4TTL || !bytes.Equal(whole, kept) {
		t.Errorf("TTL 1: %x, %d", whole, e)
	}
	b[8] = 0
	summed(b)
	kept = slices.Clone(whole)
	if e := ip4.Hop(b); e != api.ErrIp4TTL || !bytes.Equal(whole, kept) {
		t.Errorf("TTL 0: %x, %d", whole, e)
	}
}

// 6.7, 6.10: each TTL with each protocol, and each sum.
func TestHopOfEachWord(t *testing.T) {
	h := hi()
	for v := range 1 << 16 {
		h.TTL, h.Proto, h.ID = v>>8, v&0xff, v*40503%65536
		b := modelBytes(h)
		want := modelBytes(h)
		e := ip4.Hop(b)
		if h.TTL < 2 {
			if e != api.ErrIp4TTL || !bytes.Equal(b, want) {
				t.Fatalf("%x: %x, %d", want, b, e)
			}
			continue
		}
		want[8]--
		if e != api.OK || !bytes.Equal(b, summed(want)) || !ip4.Canonical(b) {
			t.Fatalf("%x: %d, want %x", b, e, want)
		}
	}
	h = hi()
	for h.ID = range 1 << 16 {
		b := modelBytes(h)
		if e := ip4.Hop(b); e != api.OK || !bytes.Equal(b, modelBytes(turned(func(g *api.Ip4) { g.ID, g.TTL = h.ID, 63 }))) {
			t.Fatalf("%04x: %x, %d", h.ID, b, e)
		}
	}
}

// 6.7: the sum is turned along by the document's rule, whichever zero stood there, and the rest stays: the reserved bit, fill, what is behind.
func TestHopLeavesTheRest(t *testing.T) {
	b, whole := roomy(append(summed(hx("47 00 00 1e 00 00 80 00 40 11 00 00 0a 00 00 01 0a 00 00 02 01 07 03 04 00 07 01 00 68 69")), 5, 6, 7))
	want := slices.Clone(whole)
	want[8]--
	summed(want)
	if e := ip4.Hop(b); e != api.OK || !bytes.Equal(whole, want) {
		t.Errorf("%x, %d, want %x", whole, e, want)
	}
	id := 0
	for id = range 1 << 16 {
		if c := modelBytes(turned(func(h *api.Ip4) { h.ID = id })); c[10]|c[11] == 0 {
			break
		}
	}
	c := modelBytes(turned(func(h *api.Ip4) { h.ID = id }))
	c[10], c[11] = 0xff, 0xff
	if e := ip4.Hop(c); e != api.OK || !bytes.Equal(c, modelBytes(turned(func(h *api.Ip4) { h.ID, h.TTL = id, 63 }))) {
		t.Errorf("of ffff: %x, %d", c, e)
	}
}

// 6.7, 6.10
func TestHopOfSome(t *testing.T) {
	r := rand.New(rand.NewSource(5))
	counts := map[api.Errno]int{}
	for range 100000 {
		b, whole := roomy(someBytes(r))
		if len(b) > 20 && r.Intn(10) == 0 && int(b[0]%16)*4 <= len(b) {
			b[8] = byte(r.Intn(3))
			summed(b)
		}
		kept := slices.Clone(whole)
		was, refused := model(slices.Clone(b))
		canonical := ip4.Canonical(b)
		e := ip4.Hop(b)
		counts[e]++
		if refused == api.OK && was.TTL < 2 {
			refused = api.ErrIp4TTL
		}
		if e != refused {
			t.Fatalf("Hop(%x) = %d, want %d", kept[:len(b)], e, refused)
		}
		if e == api.OK {
			old := int(binary.BigEndian.Uint16(kept[10:]))
			kept[8]--
			if now := (old + 256) % 65535; int(binary.BigEndian.Uint16(b[10:]))%65535 != now {
				t.Fatalf("the sum of %x is not %04x", b, now)
			}
			copy(kept[10:12], b[10:12])
			was.TTL--
			if h, e := ip4.Parse(b); e != api.OK || !same(h, was) || canonical && !ip4.Canonical(b) {
				t.Fatalf("behind Hop %x is %v, %d, want %v", b, h, e, was)
			}
		}
		if !bytes.Equal(whole, kept) {
			t.Fatalf("Hop leaves %x, want %x", whole, kept)
		}
	}
	if counts[api.OK] < 10000 || counts[api.ErrIp4TTL] < 1000 {
		t.Errorf("counts: %v", counts)
	}
}
