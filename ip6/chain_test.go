package ip6_test

import (
	"bytes"
	"math"
	"math/rand"
	"slices"
	"strings"
	"testing"

	"weir/api"
	"weir/ip6"
)

// 7.5: the bytes of chains, read and written.
func TestBytesOfChains(t *testing.T) {
	rows := []struct {
		first int
		b     string
		rest  string
		l     []api.Ext
		next  int
	}{
		{17, "", "aa", nil, 17}, {59, "", "", nil, 59}, {255, "", "01 02", nil, 255}, {1, "", "00", nil, 1},
		{60, "11 00" + zeros6, "aa", []api.Ext{options(60, run(6))}, 17},
		{60, "3b 00" + zeros6, "", []api.Ext{options(60, run(6))}, 59},
		{43, "06 00 01 02 03 04 05 06", "bb cc", []api.Ext{routes(1, 2, 3, 4, 5, 6)}, 6},
		{60, "2b 00" + zeros6 + "3b 00 00 00 00 00 00 00", "", []api.Ext{options(60, run(6)), routes(make([]byte, 6)...)}, 59},
		{43, "3c 00 01 02 03 04 05 06 3a 01 05 02 00 00 01 06 00 00 00 00 00 00 07 00", "09", []api.Ext{routes(1, 2, 3, 4, 5, 6), options(60, opt(5, 0, 0), run(8), opt(7))}, 58},
		{60, strings.Repeat("3c 00"+zeros6, 7) + "11 00" + zeros6, "01", slices.Repeat([]api.Ext{options(60, run(6))}, 8), 17},
	}
	for i, r := range rows {
		b, whole := roomy(append(hx(r.b), hx(r.rest)...))
		kept := slices.Clone(whole)
		l, next, rest, e := ip6.Chain(r.first, b)
		if e != api.OK || !sameExts(l, r.l) || next != r.next || !bytes.Equal(rest, hx(r.rest)) {
			t.Errorf("%d: Chain = %v, %d, %x, %d", i, l, next, rest, e)
		}
		if w, e := ip6.PutChain(r.l, r.next); e != api.OK || !bytes.Equal(w, hx(r.b)) {
			t.Errorf("%d: PutChain = %x, %d", i, w, e)
		}
		if !bytes.Equal(whole, kept) {
			t.Errorf("%d: the bytes were changed", i)
		}
	}
}

// 7.5
func TestChainRefuses(t *testing.T) {
	sixty := "3c 00" + zeros6
	rows := []struct {
		next int
		b    []byte
		want api.Errno
	}{
		{-1, nil, api.ErrArg}, {256, nil, api.ErrArg}, {math.MinInt, nil, api.ErrArg}, {math.MaxInt, nil, api.ErrArg}, {1<<32 + 17, nil, api.ErrArg}, {-1, make([]byte, 65536), api.ErrArg}, {256, make([]byte, 65536), api.ErrArg},
		{17, make([]byte, 65536), api.ErrLong}, {0, make([]byte, 65536), api.ErrLong}, {44, make([]byte, 65536), api.ErrLong}, {60, make([]byte, 65536), api.ErrLong},
		{0, nil, api.ErrFirst}, {0, hx("11 00" + zeros6), api.ErrFirst}, {60, hx("00 00" + zeros6), api.ErrFirst}, {60, hx("00 00" + zeros6 + "11 00" + zeros6), api.ErrFirst}, {43, hx("00 00" + zeros6), api.ErrFirst}, {60, hx(strings.Repeat(sixty, 7) + "00 00" + zeros6), api.ErrFirst},
		{44, nil, api.ErrFrag6}, {44, hx("11 00 00 00 00 00 00 00 09"), api.ErrFrag6}, {60, hx("2c 00" + zeros6), api.ErrFrag6}, {43, hx("2c 00" + zeros6 + "11 00 00 00 00 00 00 07"), api.ErrFrag6}, {60, hx(strings.Repeat(sixty, 7) + "2c 00" + zeros6), api.ErrFrag6},
		{60, hx(strings.Repeat(sixty, 8)), api.ErrExts}, {60, hx(strings.Repeat(sixty, 9)), api.ErrExts}, {60, hx(strings.Repeat(sixty, 7) + "2b 00" + zeros6 + "11"), api.ErrExts},
		{60, nil, api.ErrChain}, {43, nil, api.ErrChain}, {60, hx("11"), api.ErrChain}, {60, hx("11 00"), api.ErrChain}, {60, hx("11 00 01 04 00 00 00"), api.ErrChain}, {43, hx("11 00 01 04 00 00 00"), api.ErrChain}, {60, hx("11 01" + zeros6 + "01 05 00 00 00 00 00"), api.ErrChain}, {60, hx("3c 00" + zeros6), api.ErrChain},
		{60, hx("11 00 01 05 00 00 00 00"), api.ErrOption6}, {60, hx("00 00 05 05 00 00 00 00"), api.ErrOption6}, {60, hx("2c 00 00 00 00 00 00 07"), api.ErrOption6},
	}
	for i, r := range rows {
		b, whole := roomy(r.b)
		kept := slices.Clone(whole)
		if l, next, rest, e := ip6.Chain(r.next, b); e != r.want || l != nil || next != 0 || rest != nil {
			t.Errorf("%d: Chain = %v, %d, %x, %d, want %d", i, l, next, rest, e, r.want)
		}
		if !bytes.Equal(whole, kept) {
			t.Errorf("%d: the bytes were changed", i)
		}
	}
	if l, next, rest, e := ip6.Chain(17, make([]byte, 65535)); e != api.OK || l != nil || next != 17 || len(rest) != 65535 {
		t.Errorf("65535 bytes: %v, %d, %d bytes, %d", l, next, len(rest), e)
	}
}

// 7.5: each kind, with bytes that might be a header and with none.
func TestChainOfEachKind(t *testing.T) {
	for next := range 256 {
		for _, b := range [][]byte{nil, hx("11 00" + zeros6), hx("11 00" + zeros6 + "01 02"), hx("11 00 01 04")} {
			l, last, rest, e := ip6.Chain(next, b)
			wantL, _, wantLast, wantRest, want := modelChain(next, b, true)
			if e != want || !sameExts(l, wantL) || last != wantLast || !bytes.Equal(rest, wantRest) {
				t.Errorf("Chain(%d, %x) = %v, %d, %x, %d, want %d", next, b, l, last, rest, e, want)
			}
		}
	}
}

// 7.5
func TestPutChainRefuses(t *testing.T) {
	sixty := options(60, run(6))
	rows := []struct {
		l    []api.Ext
		next int
		want api.Errno
	}{
		{nil, -1, api.ErrArg}, {nil, 256, api.ErrArg}, {nil, math.MinInt, api.ErrArg}, {nil, math.MaxInt, api.ErrArg}, {nil, 1<<32 + 17, api.ErrArg}, {slices.Repeat([]api.Ext{sixty}, 9), 256, api.ErrArg}, {[]api.Ext{{Kind: 7}}, -1, api.ErrArg},
		{slices.Repeat([]api.Ext{sixty}, 9), 17, api.ErrExts}, {slices.Repeat([]api.Ext{sixty}, 9), 0, api.ErrExts}, {slices.Repeat([]api.Ext{{}}, 9), 17, api.ErrExts},
		{[]api.Ext{options(0, run(6))}, 17, api.ErrFirst}, {[]api.Ext{sixty, options(0, run(6))}, 17, api.ErrFirst}, {[]api.Ext{{}}, 0, api.ErrFirst}, {[]api.Ext{{Data: []byte{1}}}, 17, api.ErrFirst},
		{nil, 0, api.ErrChain}, {nil, 43, api.ErrChain}, {nil, 44, api.ErrChain}, {nil, 60, api.ErrChain}, {[]api.Ext{sixty}, 0, api.ErrChain}, {[]api.Ext{sixty}, 43, api.ErrChain}, {[]api.Ext{sixty}, 44, api.ErrChain}, {[]api.Ext{sixty}, 60, api.ErrChain},
		{[]api.Ext{{Kind: 44}}, 17, api.ErrChain}, {[]api.Ext{{Kind: 17}}, 17, api.ErrChain}, {[]api.Ext{{Kind: -1}}, 17, api.ErrChain}, {[]api.Ext{routes()}, 17, api.ErrChain}, {[]api.Ext{routes(1)}, 17, api.ErrChain}, {[]api.Ext{{Kind: 43, Opts: []api.Opt{run(6)}}}, 17, api.ErrChain}, {[]api.Ext{{Kind: 60, Opts: []api.Opt{run(6)}, Data: []byte{1}}}, 17, api.ErrChain}, {[]api.Ext{routes(make([]byte, 2054)...)}, 17, api.ErrChain},
		{[]api.Ext{options(60)}, 17, api.ErrOption6}, {[]api.Ext{options(60)}, 0, api.ErrOption6}, {[]api.Ext{sixty, options(60, run(7))}, 17, api.ErrOption6}, {[]api.Ext{options(60, run(2)), routes()}, 17, api.ErrOption6}, {[]api.Ext{routes(), options(60, run(2))}, 17, api.ErrChain}, {[]api.Ext{options(60, opt(1, 1, 2, 3, 4))}, 17, api.ErrOption6},
	}
	for i, r := range rows {
		kept := copiedExts(r.l)
		if b, e := ip6.PutChain(r.l, r.next); e != r.want || b != nil {
			t.Errorf("%d: PutChain = %x, %d, want %d", i, b, e, r.want)
		}
		if !sameExts(r.l, kept) {
			t.Errorf("%d: the headers were changed", i)
		}
	}
	most := slices.Repeat([]api.Ext{routes(make([]byte, 2046)...)}, 8)
	if b, e := ip6.PutChain(most, 17); e != api.OK || !bytes.Equal(b, modelExts(most, 17)) || len(b) != 16384 {
		t.Errorf("the longest chain: %d bytes, %d", len(b), e)
	}
}

// 7.5: of several faults the first in the document's order is told.
func TestPutChainOrder(t *testing.T) {
	type chain struct {
		l    []api.Ext
		next int
	}
	faults := []struct {
		lay  func(*chain)
		want api.Errno
	}{
		{func(c *chain) { c.next = 256 }, api.ErrArg},
		{func(c *chain) { c.l = append(c.l, slices.Repeat([]api.Ext{options(60, run(6))}, 7)...) }, api.ErrExts},
		{func(c *chain) { c.l[0].Kind = 0 }, api.ErrFirst},
		{func(c *chain) { c.l[0].Data = []byte{1} }, api.ErrChain},
		{func(c *chain) { c.l[0].Opts = nil }, api.ErrOption6},
		{func(c *chain) { c.l[1].Kind = 0 }, api.ErrFirst},
		{func(c *chain) { c.l[1].Data = nil }, api.ErrChain},
		{func(c *chain) { c.next = 43 }, api.ErrChain},
	}
	for set := range 1 << len(faults) {
		c, want := chain{[]api.Ext{options(60, run(6)), routes(1, 2, 3, 4, 5, 6)}, 17}, api.OK
		for i := len(faults) - 1; i >= 0; i-- {
			if set>>i&1 == 1 {
				faults[i].lay(&c)
				want = faults[i].want
			}
		}
		if b, e := ip6.PutChain(c.l, c.next); e != want || e != api.OK && b != nil {
			t.Errorf("faults %b: PutChain = %d, want %d", set, e, want)
		}
	}
}

// 7.5: Chain of many bytes near to a chain, against the model; what it answers is put as it was but for how padding is written.
func TestChainOfSome(t *testing.T) {
	r := rand.New(rand.NewSource(7))
	counts := map[api.Errno]int{}
	for range 100000 {
		next, c := someChain(r, true)
		if r.Intn(20) == 0 {
			c = c[:r.Intn(len(c)+1)]
		}
		b, whole := roomy(c)
		kept := slices.Clone(whole)
		l, last, rest, e := ip6.Chain(next, b)
		wantL, _, wantLast, wantRest, want := modelChain(next, b, true)
		if e != want || !sameExts(l, wantL) || last != wantLast || !bytes.Equal(rest, wantRest) {
			t.Fatalf("Chain(%d, %x) = %v, %d, %x, %d, want %v, %d, %x, %d", next, b, l, last, rest, e, wantL, wantLast, wantRest, want)
		}
		counts[e]++
		if e == api.OK {
			w, f := ip6.PutChain(l, last)
			if f != api.OK || len(w)+len(rest) != len(b) || !bytes.Equal(w, modelExts(l, last)) {
				t.Fatalf("PutChain(%v, %d) = %x, %d", l, last, w, f)
			}
		}
		if !bytes.Equal(whole, kept) {
			t.Fatalf("%x was changed", b)
		}
	}
	for _, e := range []api.Errno{api.OK, api.ErrChain, api.ErrFirst, api.ErrExts, api.ErrOption6, api.ErrFrag6} {
		if counts[e] < 1000 {
			t.Errorf("error %d came only %d times", e, counts[e])
		}
	}
}

// 7.10: what PutChain writes is read as it was, with whatever stands behind it, alone and in a datagram.
func TestChainsComeBack(t *testing.T) {
	r := rand.New(rand.NewSource(8))
	for range 20000 {
		l, next := someExts(r, false), someUpper(r)
		first := next
		if len(l) > 0 {
			first = l[0].Kind
		}
		c, e := ip6.PutChain(l, next)
		if e != api.OK || !bytes.Equal(c, modelExts(l, next)) {
			t.Fatalf("PutChain(%v, %d) = %x, %d", l, next, c, e)
		}
		data := make([]byte, r.Intn(40))
		if r.Intn(500) == 0 {
			data = make([]byte, 65535-len(c))
		}
		r.Read(data)
		g, last, rest, e := ip6.Chain(first, append(slices.Clone(c), data...))
		if e != api.OK || !sameExts(g, l) || last != next || !bytes.Equal(rest, data) {
			t.Fatalf("Chain(PutChain(%v, %d)) = %v, %d, %x, %d", l, next, g, last, rest, e)
		}
		if len(c)+len(data) > 65495 {
			continue
		}
		h, e := ip6.Parse(dg(first, append(slices.Clone(c), data...)...))
		if e != api.OK || !sameExts(h.Exts, l) || h.Next != next || !bytes.Equal(h.Data, data) || h.Frag.Has {
			t.Fatalf("a datagram with %v is read as %v, %d", l, h, e)
		}
	}
}
