package icmp_test

import (
	"bytes"
	"math"
	"math/rand"
	"slices"
	"testing"

	"weir/api"
	"weir/icmp"
)

// 8.2, 8.3: the bytes of messages, read and written.
func TestBytesOfMessages(t *testing.T) {
	rows := []struct {
		src, dst api.IP
		x        api.Icmp
		b        string
	}{
		{none, none, api.Icmp{V: 4, Type: 8, Rest: 65537}, "08 00 f7 fd 00 01 00 01"},
		{none, none, api.Icmp{V: 4}, "00 00 ff ff 00 00 00 00"},
		{none, none, api.Icmp{V: 4, Data: make([]byte, 3)}, "00 00 ff ff 00 00 00 00 00 00 00"},
		{none, none, api.Icmp{V: 4, Type: 255, Code: 255}, "ff ff 00 00 00 00 00 00"},
		{none, none, api.Icmp{V: 4, Type: 3, Code: 13, Rest: 0x12345678, Data: hx("ab cd ef")}, "03 0d f9 77 12 34 56 78 ab cd ef"},
		{none, none, api.Icmp{V: 4, Rest: 1<<32 - 1, Data: hx("01")}, "00 00 fe ff ff ff ff ff 01"},
		{l, m, api.Icmp{V: 4, Type: 8, Rest: 65537}, "08 00 f7 fd 00 01 00 01"},
		{api.IP{V: 5}, ten, api.Icmp{V: 4, Type: 8, Rest: 65537}, "08 00 f7 fd 00 01 00 01"},
		{l, m, api.Icmp{V: 6, Type: 128, Rest: 65537}, "80 00 24 46 00 01 00 01"},
		{m, l, api.Icmp{V: 6, Type: 128, Rest: 65537}, "80 00 24 46 00 01 00 01"},
		{l, m, api.Icmp{V: 6, Type: 128, Rest: 65537, Data: hx("01")}, "80 00 23 45 00 01 00 01 01"},
		{api.IP{V: 6}, api.IP{V: 6}, api.Icmp{V: 6}, "00 00 ff bd 00 00 00 00"},
		{api.IP{V: 6}, api.IP{V: 6}, api.Icmp{V: 6, Rest: 0xffbd}, "00 00 00 00 00 00 ff bd"},
	}
	for i, r := range rows {
		b, e := icmp.Serialise(r.src, r.dst, r.x)
		if e != api.OK || !bytes.Equal(b, hx(r.b)) || !bytes.Equal(b, modelBytes(r.src, r.dst, r.x)) {
			t.Errorf("%d: Serialise = %x, %d", i, b, e)
		}
		if x, e := icmp.Parse(r.x.V, r.src, r.dst, hx(r.b)); e != api.OK || !same(x, r.x) {
			t.Errorf("%d: Parse = %v, %d", i, x, e)
		}
	}
}

// 8.1, 8.2
func TestCheck(t *testing.T) {
	type row struct {
		x    api.Icmp
		want api.Errno
	}
	rows := []row{
		{api.Icmp{}, api.ErrArg}, {api.Icmp{V: 4}, api.OK}, {api.Icmp{V: 6}, api.OK}, {api.Icmp{V: 4, Rest: 1<<32 - 1}, api.OK}, {api.Icmp{V: 4, Rest: 1 << 32}, api.ErrIcmpField}, {api.Icmp{V: 6, Rest: 1 << 31}, api.OK},
		{api.Icmp{V: 4, Data: make([]byte, most)}, api.OK}, {api.Icmp{V: 6, Data: make([]byte, most)}, api.OK}, {api.Icmp{V: 4, Data: make([]byte, most+1)}, api.ErrLong}, {api.Icmp{V: 6, Data: make([]byte, most+1)}, api.ErrLong}, {api.Icmp{V: 4, Data: make([]byte, 200000)}, api.ErrLong},
	}
	for _, v := range []int{math.MinInt, -4, -1, 1, 2, 3, 5, 7, 8, 46, 260, 1<<32 + 4, 1<<32 + 6, math.MaxInt} {
		rows = append(rows, row{api.Icmp{V: v}, api.ErrArg})
	}
	for _, v := range []int{4, 6} {
		for _, n := range []int{math.MinInt, -1 << 32, -256, -1, 1 << 32, 1<<32 + 8, math.MaxInt} {
			rows = append(rows, row{api.Icmp{V: v, Type: n}, api.ErrIcmpField}, row{api.Icmp{V: v, Code: n}, api.ErrIcmpField}, row{api.Icmp{V: v, Rest: n}, api.ErrIcmpField})
		}
		for n := range 300 {
			want := api.OK
			if n > 255 {
				want = api.ErrIcmpField
			}
			rows = append(rows, row{api.Icmp{V: v, Type: n}, want}, row{api.Icmp{V: v, Code: n}, want}, row{api.Icmp{V: v, Rest: n}, api.OK}, row{api.Icmp{V: v, Rest: 1<<32 - 1 - n}, api.OK})
		}
	}
	for i, r := range rows {
		if e := icmp.Check(r.x); e != r.want {
			t.Errorf("%d: Check = %d, want %d", i, e, r.want)
		}
		b, e := icmp.Serialise(l, m, r.x)
		if e != r.want || e != api.OK && b != nil || e == api.OK && !bytes.Equal(b, modelBytes(l, m, r.x)) {
			t.Errorf("%d: Serialise has %d bytes, %d, want %d", i, len(b), e, r.want)
		}
		if x, e := icmp.Parse(r.x.V, l, m, b); r.want == api.OK && (e != api.OK || !same(x, r.x)) {
			t.Errorf("%d: not read again: %d", i, e)
		}
	}
}

// 8.1, 8.2: of several faults the first in the document's order is told.
func TestSerialiseOrder(t *testing.T) {
	type call struct {
		src, dst api.IP
		x        api.Icmp
	}
	faults := []struct {
		lay  func(*call)
		want api.Errno
	}{
		{func(c *call) { c.x.V = 5 }, api.ErrArg},
		{func(c *call) { c.x.Type = 256 }, api.ErrIcmpField}, {func(c *call) { c.x.Code = -1 }, api.ErrIcmpField}, {func(c *call) { c.x.Rest = -1 }, api.ErrIcmpField},
		{func(c *call) { c.x.Data = make([]byte, most+1) }, api.ErrLong},
		{func(c *call) { c.src = ten }, api.ErrFamily}, {func(c *call) { c.dst = none }, api.ErrFamily},
	}
	for set := range 1 << len(faults) {
		c, want := call{l, m, api.Icmp{V: 6, Type: 128}}, api.OK
		for i := len(faults) - 1; i >= 0; i-- {
			if set>>i&1 == 1 {
				faults[i].lay(&c)
				want = faults[i].want
			}
		}
		if b, e := icmp.Serialise(c.src, c.dst, c.x); e != want || e != api.OK && b != nil {
			t.Errorf("faults %b: Serialise = %d, want %d", set, e, want)
		}
		if e := icmp.Check(c.x); want != api.ErrFamily && e != want || want == api.ErrFamily && e != api.OK {
			t.Errorf("faults %b: Check = %d", set, e)
		}
	}
}

// 8.3: of several faults the first in the document's order is told.
func TestParseOrder(t *testing.T) {
	type call struct {
		v        int
		src, dst api.IP
		b        []byte
	}
	faults := []struct {
		lay  func(*call)
		want api.Errno
	}{
		{func(c *call) { c.b = make([]byte, 65516) }, api.ErrLong},
		{func(c *call) { c.v = 5 }, api.ErrArg},
		{func(c *call) { c.src = ten }, api.ErrFamily}, {func(c *call) { c.dst = api.IP{V: 7} }, api.ErrFamily},
		{func(c *call) { c.b = c.b[:7] }, api.ErrIcmpShort},
		{func(c *call) { c.b[2]++ }, api.ErrIcmpSum},
	}
	for set := range 1 << len(faults) {
		c, want := call{6, l, m, hx("80 00 24 46 00 01 00 01")}, api.OK
		for i := len(faults) - 1; i >= 0; i-- {
			if set>>i&1 == 1 {
				faults[i].lay(&c)
				want = faults[i].want
			}
		}
		if x, e := icmp.Parse(c.v, c.src, c.dst, c.b); e != want || e != api.OK && !zero(x) {
			t.Errorf("faults %b: Parse = %v, %d, want %d", set, x, e, want)
		}
	}
}

// 8.2, 8.3: which addresses may be; of version 4 they are not looked at.
func TestAddressesOfMessages(t *testing.T) {
	short := api.IP{V: 4, A: [16]byte{10, 0, 0, 1, 15: 1}}
	all := []api.IP{none, ten, short, {V: 5}, {V: -6}, {V: 1<<32 + 6}, {A: [16]byte{1}}, {V: 6}, l, ip("ff02::1"), ip("::1")}
	for i, src := range all {
		for j, dst := range all {
			for _, v := range []int{4, 6} {
				want := api.OK
				if v == 6 && (src.V != 6 || dst.V != 6) {
					want = api.ErrFamily
				}
				x := api.Icmp{V: v, Type: 9, Code: 7, Rest: 5, Data: []byte{3, 1}}
				b, e := icmp.Serialise(src, dst, x)
				if e != want || e != api.OK && b != nil || e == api.OK && !bytes.Equal(b, modelBytes(src, dst, x)) {
					t.Errorf("%d to %d: Serialise = %x, %d, want %d", i, j, b, e, want)
				}
				g, e := icmp.Parse(v, src, dst, modelBytes(src, dst, x))
				if e != want || e == api.OK && !same(g, x) || e != api.OK && !zero(g) {
					t.Errorf("%d to %d: Parse = %v, %d, want %d", i, j, g, e, want)
				}
			}
		}
	}
}

// 8.3: each version.
func TestParseVersions(t *testing.T) {
	for _, v := range []int{math.MinInt, -6, -4, -1, 0, 1, 2, 3, 5, 7, 8, 46, 1<<32 + 4, 1<<32 + 6, math.MaxInt} {
		for _, b := range [][]byte{nil, make([]byte, 8), hx("08 00 f7 fd 00 01 00 01"), make([]byte, 65515)} {
			if x, e := icmp.Parse(v, none, l, b); e != api.ErrArg || !zero(x) {
				t.Errorf("Parse(%d) = %v, %d", v, x, e)
			}
		}
	}
}

// 8.3: each length, whatever stands in the room behind it.
func TestParseLengths(t *testing.T) {
	for _, v := range []int{4, 6} {
		for _, n := range []int{0, 1, 2, 3, 4, 5, 6, 7, 8, 9, 10, 11, 20, 1500, 1501, 65514, 65515, 65516, 65517, 65535, 65536, 200000} {
			b := bytes.Repeat([]byte{0xa5}, n)
			if n >= 8 {
				summed(v, l, m, b)
			}
			b, whole := roomy(b)
			kept := slices.Clone(whole)
			x, e := icmp.Parse(v, l, m, b)
			g, want := model(v, l, m, b)
			if e != want || !same(x, g) || (e == api.OK) != (n >= 8 && n <= 65515) {
				t.Errorf("%d bytes: %d, want %d", n, e, want)
			}
			if !bytes.Equal(whole, kept) {
				t.Errorf("%d bytes: they were changed", n)
			}
		}
	}
	if x, e := icmp.Parse(4, none, none, make([]byte, 8)); e != api.ErrIcmpSum || !zero(x) {
		t.Errorf("zeros: %v, %d", x, e)
	}
}

// 8.3: no bit of a message may be turned over, of version 6 none of its addresses; and one length is not another.
func TestParseOfEachBit(t *testing.T) {
	x := api.Icmp{V: 6, Type: 129, Code: 3, Rest: 0x1020304, Data: []byte("some bytes")}
	for _, v := range []int{4, 6} {
		x.V = v
		b := modelBytes(l, m, x)
		for k := range 8 * len(b) {
			b[k/8] ^= 1 << (k % 8)
			if g, e := icmp.Parse(v, l, m, b); e != api.ErrIcmpSum || !zero(g) {
				t.Errorf("version %d, bit %d: %v, %d", v, k, g, e)
			}
			b[k/8] ^= 1 << (k % 8)
		}
	}
	b := modelBytes(l, m, x)
	for k := range 128 {
		a, c := l, m
		a.A[k/8] ^= 1 << (k % 8)
		c.A[k/8] ^= 1 << (k % 8)
		if _, e := icmp.Parse(6, a, m, b); e != api.ErrIcmpSum {
			t.Errorf("src, bit %d: %d", k, e)
		}
		if _, e := icmp.Parse(6, l, c, b); e != api.ErrIcmpSum {
			t.Errorf("dst, bit %d: %d", k, e)
		}
	}
	if _, e := icmp.Parse(6, l, m, append(b, 0, 0)); e != api.ErrIcmpSum {
		t.Errorf("two bytes more: %d", e)
	}
	if g, e := icmp.Parse(4, l, m, b); e != api.ErrIcmpSum || !zero(g) {
		t.Errorf("as version 4: %v, %d", g, e)
	}
}

// 8.3, 8.4: where the right sum is 0, 0 is what is written, and ffff is read as well.
func TestBothZeros(t *testing.T) {
	for _, v := range []int{4, 6} {
		found := 0
		for rest := range 65536 {
			x := api.Icmp{V: v, Type: 8, Rest: rest, Data: []byte{1, 2, 3}}
			b, e := icmp.Serialise(l, m, x)
			if e != api.OK || b[2] == 0xff && b[3] == 0xff {
				t.Fatalf("%v: %x, %d", x, b, e)
			}
			if b[2]|b[3] != 0 {
				continue
			}
			found++
			if g, e := icmp.Parse(v, l, m, b); e != api.OK || !same(g, x) {
				t.Errorf("%x: %v, %d", b, g, e)
			}
			b[2], b[3] = 0xff, 0xff
			if g, e := icmp.Parse(v, l, m, b); e != api.OK || !same(g, x) {
				t.Errorf("%x: %v, %d", b, g, e)
			}
		}
		if found == 0 {
			t.Errorf("version %d: no sum was 0", v)
		}
	}
}

// 8.3, 8.4: many bytes near to a message, against the model.
func TestParseOfSome(t *testing.T) {
	r := rand.New(rand.NewSource(1))
	counts, other := map[api.Errno]int{}, 0
	for range 200000 {
		v, src, dst := 4+2*r.Intn(2), someIP(r, 6), someIP(r, 6)
		switch r.Intn(40) {
		case 0:
			v = r.Intn(8)
		case 1:
			src = someIP(r, 4)
		case 2:
			dst = none
		}
		b, whole := roomy(someBytes(r, v, src, dst))
		kept := slices.Clone(whole)
		x, e := icmp.Parse(v, src, dst, b)
		g, want := model(v, src, dst, b)
		if e != want || !same(x, g) || e != api.OK && !zero(x) {
			t.Fatalf("Parse(%d, %v, %v, %x) = %v, %d, want %v, %d", v, src, dst, b, x, e, g, want)
		}
		counts[e]++
		if e == api.OK {
			w, e := icmp.Serialise(src, dst, x)
			if icmp.Check(x) != api.OK || e != api.OK || !bytes.Equal(w, modelBytes(src, dst, x)) || !bytes.Equal(w[:2], b[:2]) || !bytes.Equal(w[4:], b[4:]) {
				t.Fatalf("Serialise(Parse(%x)) = %x, %d", b, w, e)
			}
			if !bytes.Equal(w, b) {
				other++
				if b[2] != 0xff || b[3] != 0xff || w[2]|w[3] != 0 {
					t.Fatalf("Serialise(Parse(%x)) = %x", b, w)
				}
			}
		}
		if !bytes.Equal(whole, kept) {
			t.Fatalf("%x was changed", b)
		}
	}
	for _, e := range []api.Errno{api.OK, api.ErrArg, api.ErrFamily, api.ErrIcmpShort, api.ErrIcmpSum} {
		if counts[e] < 1000 {
			t.Errorf("error %d came only %d times", e, counts[e])
		}
	}
	if other < 1000 {
		t.Errorf("the other zero came only %d times", other)
	}
}

// 8.4
func TestMessagesComeBack(t *testing.T) {
	r := rand.New(rand.NewSource(2))
	for range 50000 {
		x := api.Icmp{V: 4 + 2*r.Intn(2), Type: r.Intn(256), Code: r.Intn(256), Rest: int(r.Uint32()), Data: make([]byte, r.Intn(40))}
		if r.Intn(1000) == 0 {
			x.Data = make([]byte, most-r.Intn(3))
		}
		r.Read(x.Data)
		src, dst := someIP(r, 6), someIP(r, 6)
		b, e := icmp.Serialise(src, dst, x)
		if e != api.OK || !bytes.Equal(b, modelBytes(src, dst, x)) {
			t.Fatalf("Serialise(%v) = %x, %d", x, b, e)
		}
		if g, e := icmp.Parse(x.V, src, dst, b); e != api.OK || !same(g, x) {
			t.Fatalf("Parse(Serialise(%v)) = %v, %d", x, g, e)
		}
	}
}

// 8.3: Data is a window of b, with a capacity of its length.
func TestDataIsAWindow(t *testing.T) {
	for _, n := range []int{0, 1, 2, 9} {
		b, whole := roomy(modelBytes(none, none, api.Icmp{V: 4, Type: 8, Data: bytes.Repeat([]byte{1}, n)}))
		x, e := icmp.Parse(4, none, none, b)
		if e != api.OK || len(x.Data) != n || cap(x.Data) != n {
			t.Fatalf("%d bytes: %v of %d, %d", n, x, cap(x.Data), e)
		}
		want := slices.Clone(whole)
		for i := range x.Data {
			x.Data[i], want[8+i] = byte(50+i), byte(50+i)
		}
		if _ = append(x.Data, 99); !bytes.Equal(whole, want) {
			t.Errorf("%d bytes: what is written into Data is %x", n, whole)
		}
	}
}

// 8.11
func TestMessageIsLeft(t *testing.T) {
	for _, v := range []int{4, 6} {
		data, whole := roomy([]byte{1, 2, 3})
		x := api.Icmp{V: v, Type: 128, Rest: 7, Data: data}
		kept, want := slices.Clone(whole), modelBytes(l, m, x)
		b, e := icmp.Serialise(l, m, x)
		if e != api.OK || icmp.Check(x) != api.OK || !bytes.Equal(b, want) {
			t.Fatalf("%x, %d", b, e)
		}
		if scribble(b); !bytes.Equal(whole, kept) {
			t.Error("Serialise's answer shares the message's memory")
		}
		if c, e := icmp.Serialise(l, m, x); e != api.OK || !bytes.Equal(c, want) {
			t.Errorf("the second time: %x, %d", c, e)
		}
	}
}
