package split_test

import (
	"math"
	"testing"

	"weir/api"
	"weir/split"
)

// 13.1: the examples.
func TestExamples4(t *testing.T) {
	h := four(100)
	yes4(t, h, 120, h)
	yes4(t, h, 119, part4(h, 0, 96, true), part4(h, 96, 100, false))
	yes4(t, h, 68, part4(h, 0, 48, true), part4(h, 48, 96, true), part4(h, 96, 100, false))
	d := h
	d.DF = true
	no4(t, d, 119, api.ErrDF)
	yes4(t, d, 120, d)
	f := four(96)
	f.Off, f.MF = 80, true
	yes4(t, f, 68, part4(f, 0, 48, true), part4(f, 48, 96, true))
	seven, copied := api.Opt{Kind: 7, Data: []byte{4}}, api.Opt{Kind: 131, Data: []byte{4, 0}}
	o := four(100, seven, copied)
	yes4(t, o, 100, part4(o, 0, 72, true, seven, copied), part4(o, 72, 100, false, copied))
	no4(t, h, 67, api.ErrMTU)
	h.TTL = 256
	no4(t, h, 67, api.ErrIp4Field)
}

// 13.1: what fits is handed out as it is, whatever else it says.
func TestFitting4(t *testing.T) {
	h := four(0)
	yes4(t, h, 68, h)
	h = four(48)
	yes4(t, h, 68, h)
	h.MF, h.Off, h.DF = true, 16, true
	yes4(t, h, 68, h)
	h = four(8, opt(7, 20), opt(131, 20))
	yes4(t, h, 68, h)
	h = four(65515)
	yes4(t, h, 65535, h)
	h = four(65475, opt(7, 38))
	yes4(t, h, 65535, h)
}

// 13.1: with a byte more than fits there are two pieces, the last of what is left: from one byte on to all that fits.
func TestEnds4(t *testing.T) {
	for n := 49; n <= 96; n++ {
		h := four(n)
		yes4(t, h, 68, part4(h, 0, 48, true), part4(h, 48, n, false))
	}
	h := four(97)
	yes4(t, h, 68, part4(h, 0, 48, true), part4(h, 48, 96, true), part4(h, 96, 97, false))
}

// 13.1: a last piece need not be a multiple of eight bytes, so it may be longer than those ahead of it.
func TestLongLast4(t *testing.T) {
	h := four(103)
	yes4(t, h, 75, part4(h, 0, 48, true), part4(h, 48, 103, false))
	h = four(104)
	yes4(t, h, 75, part4(h, 0, 48, true), part4(h, 48, 96, true), part4(h, 96, 104, false))
	h = four(104)
	yes4(t, h, 76, part4(h, 0, 56, true), part4(h, 56, 104, false))
}

// 13.1: each MTU from one multiple of eight to the next gives the same pieces.
func TestRounded4(t *testing.T) {
	h := four(200)
	for mtu := 100; mtu < 108; mtu++ {
		yes4(t, h, mtu, part4(h, 0, 80, true), part4(h, 80, 160, true), part4(h, 160, 200, false))
	}
	yes4(t, h, 108, part4(h, 0, 88, true), part4(h, 88, 176, true), part4(h, 176, 200, false))
}

// 13.1: the offsets go on from h's own, and the last piece says of more what h says.
func TestCutAgain4(t *testing.T) {
	h := four(100)
	h.Off = 65400
	yes4(t, h, 68, part4(h, 0, 48, true), part4(h, 48, 96, true), part4(h, 96, 100, false))
	h = four(104)
	h.MF, h.Off = true, 8
	yes4(t, h, 75, part4(h, 0, 48, true), part4(h, 48, 96, true), part4(h, 96, 104, true))
	h.MF = false
	yes4(t, h, 75, part4(h, 0, 48, true), part4(h, 48, 96, true), part4(h, 96, 104, false))
	h = four(56)
	h.MF = true
	yes4(t, h, 68, part4(h, 0, 48, true), part4(h, 48, 56, true))
}

// 13.1: all options stand in the first piece, wherever it is itself; of the others only those with the highest bit.
func TestOptions4(t *testing.T) {
	a, b, c, d := opt(127, 3), opt(128, 4), opt(2, 5), opt(255, 6)
	h := four(200, a, b, c, d) // 18 bytes: a header of 40; of the others 10 bytes: one of 32
	h.Off = 48
	yes4(t, h, 100, part4(h, 0, 56, true, a, b, c, d), part4(h, 56, 120, true, b, d), part4(h, 120, 184, true, b, d), part4(h, 184, 200, false, b, d))
	h = four(60, a, c)
	yes4(t, h, 68, part4(h, 0, 40, true, a, c), part4(h, 40, 60, false))
	h = four(60, b, d, b)
	yes4(t, h, 68, part4(h, 0, 32, true, b, d, b), part4(h, 32, 60, false, b, d, b))
}

// 13.1: headers of 60 bytes leave eight in a piece at the smallest MTU.
func TestFullHeader4(t *testing.T) {
	o := opt(131, 40)
	h := four(17, o)
	yes4(t, h, 68, part4(h, 0, 8, true, o), part4(h, 8, 16, true, o), part4(h, 16, 17, false, o))
	o = opt(7, 40)
	h = four(57, o)
	yes4(t, h, 68, part4(h, 0, 8, true, o), part4(h, 8, 56, true), part4(h, 56, 57, false))
	h = four(56, o)
	yes4(t, h, 68, part4(h, 0, 8, true, o), part4(h, 8, 56, false))
	o = opt(131, 37) // zeros behind it, up to 40 bytes
	h = four(9, o)
	yes4(t, h, 68, part4(h, 0, 8, true, o), part4(h, 8, 9, false, o))
}

// 13.1: every other field is that of h in each piece.
func TestOthers4(t *testing.T) {
	h := four(100)
	h.Tos, h.ID, h.TTL, h.Proto = 255, 65535, 0, 0
	h.Src, h.Dst = api.IP{V: 4}, api.IP{V: 4, A: [16]byte{255, 255, 255, 255}}
	yes4(t, h, 119, part4(h, 0, 96, true), part4(h, 96, 100, false))
}

// 13.1: the greatest datagram at either end of the MTUs.
func TestGreatest4(t *testing.T) {
	h := four(65515)
	yes4(t, h, 65534, part4(h, 0, 65512, true), part4(h, 65512, 65515, false))
	l, e := split.Split4(h, 68)
	if e != api.OK || len(l) != 1365 || text(l[1364]) != text(part4(h, 65472, 65515, false)) {
		t.Errorf("Split4 at 68: %d pieces, %d", len(l), e)
	}
}

// 13.1: wrong inputs, each error ahead of those that are asked behind it.
func TestErrors4(t *testing.T) {
	bad := four(100)
	bad.DF, bad.Off = true, 4
	option := four(100, api.Opt{Kind: 1})
	long := four(65516)
	frag := four(100)
	frag.MF = true
	held := four(100)
	held.DF = true
	for _, r := range []struct {
		h   api.Ip4
		mtu int
		e   api.Errno
	}{
		{api.Ip4{}, 100, api.ErrIp4Field}, {bad, -1, api.ErrIp4Field}, {option, 0, api.ErrIp4Option}, {long, 1, api.ErrIp4Total}, {frag, 65536, api.ErrIp4Frag},
		{held, 67, api.ErrMTU}, {held, 65536, api.ErrMTU}, {four(0), 67, api.ErrMTU}, {four(0), 65536, api.ErrMTU}, {four(100), 0, api.ErrMTU},
		{four(100), math.MinInt, api.ErrMTU}, {four(100), math.MaxInt, api.ErrMTU},
		{held, 68, api.ErrDF}, {held, 119, api.ErrDF},
	} {
		no4(t, r.h, r.mtu, r.e)
	}
}

// 13.3
func TestFits4(t *testing.T) {
	bad := four(100)
	bad.TTL = 256
	odd := four(1, opt(7, 5))
	held := four(100)
	held.DF = true
	frag := four(100)
	frag.MF = true
	for _, r := range []struct {
		h    api.Ip4
		mtu  int
		fits bool
	}{
		{four(100), 120, true}, {four(100), 119, false}, {held, 120, true}, {held, 119, false}, {four(100), -1, false}, {four(100), math.MinInt, false}, {four(100), math.MaxInt, true},
		{four(0), 20, true}, {four(0), 19, false}, {four(0), 67, true}, {four(0), 65536, true},
		{odd, 29, true}, {odd, 28, false}, {four(65515), 65535, true}, {four(65515), 65534, false}, {four(65516), math.MaxInt, false},
		{bad, 2000, false}, {frag, 2000, false}, {api.Ip4{}, 2000, false}, {four(1, api.Opt{Kind: 1}), 2000, false},
	} {
		if got := split.Fits4(r.h, r.mtu); got != r.fits {
			t.Errorf("Fits4(%s, %d) = %v", brief(r.h), r.mtu, got)
		}
	}
}
