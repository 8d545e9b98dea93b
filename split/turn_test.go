package split_test

import (
	"bytes"
	"math/rand"
	"testing"

	"weir/api"
	"weir/ip4"
	"weir/ip6"
	"weir/reasm"
	"weir/split"
)

// drawn4 is a datagram, a fragment, or at times none.
func drawn4(r *rand.Rand) api.Ip4 {
	h := four(r.Intn(300))
	h.ID, h.TTL, h.Tos = r.Intn(65536), r.Intn(256), r.Intn(256)
	for room := 40; r.Intn(3) > 0; {
		o := opt([6]int{7, 68, 127, 128, 131, 255}[r.Intn(6)], 2+r.Intn(12))
		if room -= 2 + len(o.Data); room < 0 {
			break
		}
		h.Opts = append(h.Opts, o)
	}
	if r.Intn(3) == 0 {
		h.Off = 8 * r.Intn(8000)
	}
	if r.Intn(3) == 0 {
		h.MF, h.Data = true, count(8+len(h.Data)/8*8)
	}
	h.DF = r.Intn(12) == 0
	switch r.Intn(40) {
	case 0:
		h.TTL = 256
	case 1:
		h.Off += 4
	case 2:
		h.Opts = append(h.Opts, api.Opt{Kind: r.Intn(2)})
	case 3:
		h.Dst.V = 6
	}
	return h
}

// drawn6 is a datagram, at times a fragment or none.
func drawn6(r *rand.Rand) api.Ip6 {
	h := six(r.Intn(4000))
	h.Next = [6]int{6, 17, 50, 51, 58, 255}[r.Intn(6)]
	if r.Intn(8) == 0 {
		h.Data = nil
	}
	if r.Intn(2) == 0 {
		h.Exts = append(h.Exts, hop(8+8*r.Intn(20)))
	}
	for r.Intn(4) > 0 {
		size := 8 + 8*r.Intn(20)
		if r.Intn(10) == 0 {
			size = 8 * (1 + r.Intn(256))
		}
		h.Exts = append(h.Exts, [2]func(int) api.Ext{dst, way}[r.Intn(2)](size))
	}
	switch r.Intn(40) {
	case 0:
		h.Hop = 256
	case 1:
		h.Next = [4]int{0, 43, 44, 60}[r.Intn(4)]
	case 2:
		h.Exts = append(h.Exts, hop(8))
	case 3:
		h.Frag = api.Frag{Has: true, ID: 4, Off: 8}
	}
	return h
}

func drawnID(r *rand.Rand) int {
	return [6]int{0, 7, 1<<32 - 1, r.Intn(1 << 32), -r.Intn(2), 1<<32 - r.Intn(2)}[r.Intn(6)]
}

// 13.1
func TestDrawn4(t *testing.T) {
	r := rand.New(rand.NewSource(13))
	for range 4000 {
		h, mtu := drawn4(r), 66+r.Intn(200)
		l, e := split.Split4(h, mtu)
		want, f := model4(h, mtu)
		if text(l) != text(want) || e != f {
			t.Fatalf("Split4(%s, %d) =\n%s, %d, want\n%s, %d", text(h), mtu, text(l), e, text(want), f)
		}
		pieces4(t, h, mtu, l)
	}
}

// 13.2
func TestDrawn6(t *testing.T) {
	r := rand.New(rand.NewSource(131))
	for range 700 {
		h, mtu, id := drawn6(r), 1278+r.Intn(500), drawnID(r)
		l, e := split.Split6(h, mtu, id)
		want, f := model6(h, mtu, id)
		if text(l) != text(want) || e != f {
			t.Fatalf("Split6(%s, %d, %d) = %s, %d, want %s, %d", brief(h), mtu, id, brief(l), e, brief(want), f)
		}
		pieces6(t, h, mtu, l)
	}
}

// 13.3
func TestDrawnFits(t *testing.T) {
	r := rand.New(rand.NewSource(132))
	for range 2000 {
		h, g := drawn4(r), drawn6(r)
		b, e := ip4.Serialise(h)
		for d := -1; d <= 1; d++ {
			if want := e == api.OK && d >= 0; split.Fits4(h, len(b)+d) != want {
				t.Errorf("Fits4(%s, %d) is not %v", brief(h), len(b)+d, want)
			}
		}
		b, e = ip6.Serialise(g)
		for d := -1; d <= 1; d++ {
			if want := e == api.OK && d >= 0; split.Fits6(g, len(b)+d) != want {
				t.Errorf("Fits6(%s, %d) is not %v", brief(g), len(b)+d, want)
			}
		}
	}
}

// 13.4, 13.5: what the pieces of a datagram are, whichever they are.
func pieces4(t *testing.T, h api.Ip4, mtu int, l []api.Ip4) {
	t.Helper()
	var all []byte
	for i, p := range l {
		n := size4(t, p)
		if n > mtu || i < len(l)-1 && n+8 <= mtu || !split.Fits4(p, mtu) {
			t.Errorf("piece %d of %s has %d bytes at %d", i, brief(h), n, mtu)
		}
		if p.Off != h.Off+len(all) {
			t.Errorf("piece %d of %s is at %d, want %d", i, brief(h), p.Off, h.Off+len(all))
		}
		yes4(t, p, mtu, p)
		all = append(all, p.Data...)
	}
	if len(l) > 0 && !bytes.Equal(all, h.Data) {
		t.Errorf("the pieces of %s are not the whole", brief(h))
	}
}

// 13.4, 13.5
func pieces6(t *testing.T, h api.Ip6, mtu int, l []api.Ip6) {
	t.Helper()
	var all []byte
	for i, p := range l {
		n := size6(t, p)
		if n > mtu || i < len(l)-1 && n+8 <= mtu || !split.Fits6(p, mtu) {
			t.Errorf("piece %d of %s has %d bytes at %d", i, brief(h), n, mtu)
		}
		if len(l) > 1 && p.Frag.Off != len(all) {
			t.Errorf("piece %d of %s is at %d, want %d", i, brief(h), p.Frag.Off, len(all))
		}
		yes6(t, p, mtu, 1, p)
		all = append(all, p.Data...)
	}
	if len(l) < 2 {
		return
	}
	exts, next, rest, e := ip6.Chain(l[0].Next, all)
	if e != api.OK || next != h.Next || !bytes.Equal(rest, h.Data) || text(append(l[0].Exts[:len(l[0].Exts):len(l[0].Exts)], exts...)) != text(h.Exts) {
		t.Errorf("the pieces of %s are not the whole", brief(h))
	}
}

// 13.6: cut at one MTU, and what comes of it at a smaller one.
func TestTwice4(t *testing.T) {
	r := rand.New(rand.NewSource(133))
	for range 1000 {
		h := drawn4(r)
		h.DF = false
		mtu := 68 + r.Intn(200)
		first, e := split.Split4(h, mtu)
		if e != api.OK {
			continue
		}
		less := 68 + r.Intn(mtu-67)
		var all []byte
		ends := 0
		for _, p := range first {
			l, e := split.Split4(p, less)
			if e != api.OK {
				t.Fatalf("Split4(%s, %d): %d", brief(p), less, e)
			}
			for _, q := range l {
				if q.Off != h.Off+len(all) || size4(t, q) > less {
					t.Errorf("%s at %d and %d: a piece of %d bytes at %d", brief(h), mtu, less, size4(t, q), q.Off)
				}
				if !q.MF {
					ends++
				}
				all = append(all, q.Data...)
			}
		}
		if !bytes.Equal(all, h.Data) || !h.MF && ends != 1 || h.MF && ends != 0 {
			t.Errorf("%s at %d and %d: %d bytes, %d ends", brief(h), mtu, less, len(all), ends)
		}
	}
}

// 13.5: what was cut, reassembly puts together, in whatever order it comes.
func TestTogether(t *testing.T) {
	r := rand.New(rand.NewSource(134))
	for range 300 {
		h, g := drawn4(r), drawn6(r)
		h.Off, h.MF = 0, false
		l4, e4 := split.Split4(h, 68+r.Intn(100))
		l6, e6 := split.Split6(g, 1280+r.Intn(100), 7)
		x, _ := reasm.New(2, 10)
		for i, k := range r.Perm(len(l4)) {
			y, o, e := x.Offer4(l4[k])
			if i == len(l4)-1 && (o != api.OWhole || text(y) != text(h)) || e != api.OK {
				t.Errorf("%s, %d: together %s, %d", brief(h), e4, brief(y), e)
			}
		}
		if len(l6) < 2 {
			continue
		}
		for i, k := range r.Perm(len(l6)) {
			y, _, o, e := x.Offer6(l6[k])
			if i == len(l6)-1 && (o != api.OWhole || text(y) != text(g)) || e != api.OK {
				t.Errorf("%s, %d: together %s, %d", brief(g), e6, brief(y), e)
			}
		}
	}
}
