package l4_test

import (
	"bytes"
	"encoding/binary"
	"math"
	"math/rand"
	"slices"
	"testing"

	"weir/api"
	"weir/l4"
)

const mostTcp = 65515 // bytes of the Data of a segment without options

// 9.6, 9.8: the bytes of segments, written and read.
func TestBytesOfTcp(t *testing.T) {
	rows := []struct {
		src, dst api.IP
		s        api.Tcp
		b        string
	}{
		{ten, two, api.Tcp{}, "0000 0000 00000000 00000000 5000 0000 9be2 0000"},
		{ten, two, api.Tcp{Sport: 1, Dport: 2, Seq: 0x01020304, Ack: 0x05060708, Flags: 0x12, Win: 0x0a0b, Urg: 0x0c0d, Data: []byte("hi")}, "0001 0002 01020304 05060708 5012 0a0b 0d36 0c0d 6869"},
		{ten, two, api.Tcp{Sport: 65535, Dport: 65535, Seq: 1<<32 - 1, Ack: 1<<32 - 1, Flags: 255, Win: 65535, Urg: 65535}, "ffff ffff ffffffff ffffffff 50ff ffff 9ae3 ffff"},
		{ten, two, api.Tcp{Flags: 2, Opts: []api.Opt{opt(2, 5, 0xb4)}}, "0000 0000 00000000 00000000 6002 0000 8424 0000 020405b4"},
		{ten, two, api.Tcp{Flags: 2, Opts: []api.Opt{opt(3, 7)}, Data: []byte{9}}, "0000 0000 00000000 00000000 6002 0000 78d8 0000 03030700 09"},
		{ten, two, api.Tcp{Sport: 0x9be2}, "9be2 0000 00000000 00000000 5000 0000 0000 0000"},
		{six, seven, api.Tcp{}, "0000 0000 00000000 00000000 5000 0000 5470 0000"},
		{api.IP{V: 6}, api.IP{V: 6}, api.Tcp{Opts: []api.Opt{opt(30, make([]byte, 38)...)}}, "0000 0000 00000000 00000000 f000 0000 f194 0000 1e28" + "00000000000000000000000000000000000000000000000000000000000000000000000000000000"[:76]},
	}
	for i, r := range rows {
		b, e := l4.PutTcp(r.src, r.dst, r.s)
		if e != api.OK || !bytes.Equal(b, hx(r.b)) || !bytes.Equal(b, tcpBytes(r.src, r.dst, r.s)) {
			t.Errorf("%d: PutTcp = %x, %d", i, b, e)
		}
		if x, e := l4.ParseTcp(r.src, r.dst, hx(r.b)); e != api.OK || !sameTcp(x, r.s) {
			t.Errorf("%d: ParseTcp = %v, %d", i, x, e)
		}
	}
}

// 9.6, 9.11: what is not canonical is read, and written in the one form.
func TestOtherWritingsOfTcp(t *testing.T) {
	s := api.Tcp{Sport: 7, Flags: 2, Opts: []api.Opt{opt(3, 7), opt(4)}, Data: []byte("data")}
	want := tcpBytes(ten, two, s)
	for i, text := range []string{
		"0007 0000 00000000 00000000 7f02 0000 0000 0000 03030704 02000000 64617461", // reserved bits
		"0007 0000 00000000 00000000 7002 0000 0000 0000 01030307 01040201 64617461", // fill
		"0007 0000 00000000 00000000 8002 0000 0000 0000 01030307 04020000 00000000 64617461",
		"0007 0000 00000000 00000000 7002 0000 0000 0000 03030704 020002ff 64617461", // something behind the end
	} {
		x, e := l4.ParseTcp(ten, two, summed(ten, two, 6, 16, hx(text)))
		if e != api.OK || !sameTcp(x, s) {
			t.Errorf("%d: %v, %d", i, x, e)
		}
		if b, e := l4.PutTcp(ten, two, x); e != api.OK || !bytes.Equal(b, want) {
			t.Errorf("%d: %x, %d", i, b, e)
		}
	}
	ffff := hx("9be2 0000 00000000 00000000 5000 0000 ffff 0000")
	x, e := l4.ParseTcp(ten, two, ffff)
	if e != api.OK || !sameTcp(x, api.Tcp{Sport: 0x9be2}) {
		t.Errorf("ffff: %v, %d", x, e)
	}
	if b, e := l4.PutTcp(ten, two, x); e != api.OK || b[16]|b[17] != 0 {
		t.Errorf("ffff is written as %x, %d", b, e)
	}
}

// 9.7, 9.8
func TestCheckTcp(t *testing.T) {
	type row struct {
		s    api.Tcp
		want api.Errno
	}
	forty := []api.Opt{opt(30, make([]byte, 38)...)}
	rows := []row{
		{api.Tcp{}, api.OK}, {api.Tcp{Opts: forty}, api.OK}, {api.Tcp{Opts: []api.Opt{opt(2, 1)}}, api.ErrTcpOption}, {api.Tcp{Opts: []api.Opt{opt(1)}}, api.ErrTcpOption}, {api.Tcp{Opts: append(slices.Clone(forty), opt(4))}, api.ErrTcpOption},
		{api.Tcp{Data: make([]byte, mostTcp)}, api.OK}, {api.Tcp{Data: make([]byte, mostTcp+1)}, api.ErrLong}, {api.Tcp{Data: make([]byte, 200000)}, api.ErrLong},
		{api.Tcp{Opts: []api.Opt{opt(4)}, Data: make([]byte, mostTcp-4)}, api.OK}, {api.Tcp{Opts: []api.Opt{opt(4)}, Data: make([]byte, mostTcp-3)}, api.ErrLong}, {api.Tcp{Opts: forty, Data: make([]byte, mostTcp-40)}, api.OK}, {api.Tcp{Opts: forty, Data: make([]byte, mostTcp-39)}, api.ErrLong},
	}
	for _, f := range []struct {
		most int
		lay  func(int) api.Tcp
	}{
		{65535, func(n int) api.Tcp { return api.Tcp{Sport: n} }}, {65535, func(n int) api.Tcp { return api.Tcp{Dport: n} }}, {1<<32 - 1, func(n int) api.Tcp { return api.Tcp{Seq: n} }}, {1<<32 - 1, func(n int) api.Tcp { return api.Tcp{Ack: n} }},
		{255, func(n int) api.Tcp { return api.Tcp{Flags: n} }}, {65535, func(n int) api.Tcp { return api.Tcp{Win: n} }}, {65535, func(n int) api.Tcp { return api.Tcp{Urg: n} }},
	} {
		for _, n := range []int{1, 2, 127, 128, 254, 255, 256, f.most/2 + 1, f.most - 1, f.most} {
			if n <= f.most {
				rows = append(rows, row{f.lay(n), api.OK})
			}
		}
		for _, n := range []int{math.MinInt, -1 << 32, -65536, -1, f.most + 1, f.most + 2, 1 << 32, 1<<33 + 5, math.MaxInt} {
			rows = append(rows, row{f.lay(n), api.ErrL4Field})
		}
	}
	for i, r := range rows {
		if e := l4.CheckTcp(r.s); e != r.want {
			t.Errorf("%d: CheckTcp = %d, want %d", i, e, r.want)
		}
		for _, p := range pairs {
			b, e := l4.PutTcp(p[0], p[1], r.s)
			if e != r.want || e != api.OK && b != nil || e == api.OK && !bytes.Equal(b, tcpBytes(p[0], p[1], r.s)) {
				t.Errorf("%d: PutTcp has %d bytes, %d, want %d", i, len(b), e, r.want)
			}
			if x, e := l4.ParseTcp(p[0], p[1], b); r.want == api.OK && (e != api.OK || !sameTcp(x, r.s)) {
				t.Errorf("%d: not read again: %d", i, e)
			}
		}
	}
}

// 9.7, 9.8: of several faults the first in the document's order is told.
func TestPutTcpOrder(t *testing.T) {
	type call struct {
		src, dst api.IP
		s        api.Tcp
	}
	faults := []struct {
		lay  func(*call)
		want api.Errno
	}{
		{func(c *call) { c.src = ten }, api.ErrFamily}, {func(c *call) { c.dst.V = 5 }, api.ErrFamily},
		{func(c *call) { c.s.Sport = -1 }, api.ErrL4Field}, {func(c *call) { c.s.Ack = 1 << 32 }, api.ErrL4Field}, {func(c *call) { c.s.Flags = 256 }, api.ErrL4Field}, {func(c *call) { c.s.Urg = 65536 }, api.ErrL4Field},
		{func(c *call) { c.s.Opts = []api.Opt{opt(3)} }, api.ErrTcpOption},
		{func(c *call) { c.s.Data = make([]byte, mostTcp+1) }, api.ErrLong},
	}
	for set := range 1 << len(faults) {
		c, want := call{six, seven, api.Tcp{Sport: 7}}, api.OK
		for i := len(faults) - 1; i >= 0; i-- {
			if set>>i&1 == 1 {
				faults[i].lay(&c)
				want = faults[i].want
			}
		}
		if b, e := l4.PutTcp(c.src, c.dst, c.s); e != want || e != api.OK && b != nil {
			t.Errorf("faults %b: PutTcp = %d, want %d", set, e, want)
		}
		if e := l4.CheckTcp(c.s); want != api.ErrFamily && e != want {
			t.Errorf("faults %b: CheckTcp = %d, want %d", set, e, want)
		}
	}
}

// 9.6: of several faults the first in the document's order is told.
func TestParseTcpOrder(t *testing.T) {
	type call struct {
		src, dst api.IP
		b        []byte
	}
	wrongOption := summed(ten, two, 6, 16, hx("0000 0000 00000000 00000000 6002 0000 0000 0000 020305b4"))
	faults := []struct {
		lay  func(*call)
		want api.Errno
	}{
		{func(c *call) { c.b = make([]byte, 65536) }, api.ErrLong},
		{func(c *call) { c.src = none }, api.ErrFamily}, {func(c *call) { c.dst = six }, api.ErrFamily},
		{func(c *call) { c.b = c.b[:19] }, api.ErrTcpShort},
		{func(c *call) { c.b[12] = 0x4f }, api.ErrTcpHead}, {func(c *call) { c.b[12] = 0x70 }, api.ErrTcpHead},
		{func(c *call) { c.b[17]++ }, api.ErrTcpSum},
		{func(c *call) { c.b = slices.Clone(wrongOption) }, api.ErrTcpOption},
	}
	for set := range 1 << len(faults) {
		c, want := call{ten, two, hx("0000 0000 00000000 00000000 6002 0000 8424 0000 020405b4")}, api.OK
		for i := len(faults) - 1; i >= 0; i-- {
			if set>>i&1 == 1 {
				faults[i].lay(&c)
				want = faults[i].want
			}
		}
		if x, e := l4.ParseTcp(c.src, c.dst, c.b); e != want || e != api.OK && !zeroTcp(x) {
			t.Errorf("faults %b: ParseTcp = %v, %d, want %d", set, x, e, want)
		}
	}
}

// 9.6: each length of the header in each number of bytes that may hold it, or may just not, whatever stands in the room behind them.
func TestEachTcpHead(t *testing.T) {
	for _, p := range pairs {
		for first := range 256 {
			for _, n := range []int{0, 1, 12, 13, 16, 19, 20, 21, 23, 24, 28, 39, 40, 41, 59, 60, 61, 100} {
				b := make([]byte, n)
				if n >= 20 {
					b[12] = byte(first)
					summed(p[0], p[1], 6, 16, b)
				}
				b, whole := roomy(b)
				kept := slices.Clone(whole)
				x, e := l4.ParseTcp(p[0], p[1], b)
				m, want := modelTcp(p[0], p[1], b)
				if e != want || !sameTcp(x, m) || (e == api.OK) != (n >= 20 && first/16 >= 5 && first/16*4 <= n) {
					t.Fatalf("%02x in %d bytes: %v, %d, want %d", first, n, x, e, want)
				}
				if !bytes.Equal(whole, kept) {
					t.Fatalf("%x was changed", b)
				}
			}
		}
	}
}

// 9.6: the greatest numbers of bytes.
func TestTcpOfEachSize(t *testing.T) {
	for _, p := range pairs {
		for _, n := range []int{1500, 1501, 65534, 65535, 65536, 65537, 200000} {
			b := bytes.Repeat([]byte{0xa5}, n)
			b[12] = 0x50
			summed(p[0], p[1], 6, 16, b)
			x, e := l4.ParseTcp(p[0], p[1], b)
			if m, want := modelTcp(p[0], p[1], b); e != want || !sameTcp(x, m) || (e == api.OK) != (n <= 65535) {
				t.Errorf("%d bytes: %d, want %d", n, e, want)
			}
		}
	}
}

// 9.6, 9.8: each port, and with it each sum: where the right one is 0, that is written, and ffff is read as well.
func TestEachTcpSum(t *testing.T) {
	for _, p := range pairs {
		zeros := 0
		for port := range 65536 {
			s := api.Tcp{Sport: port, Flags: 16, Data: []byte{1, 2, 3}}
			b, e := l4.PutTcp(p[0], p[1], s)
			if e != api.OK || b[16] == 255 && b[17] == 255 || !bytes.Equal(b, tcpBytes(p[0], p[1], s)) {
				t.Fatalf("%v: %x, %d", s, b, e)
			}
			if x, e := l4.ParseTcp(p[0], p[1], b); e != api.OK || !sameTcp(x, s) {
				t.Fatalf("%x: %v, %d", b, x, e)
			}
			if b[16]|b[17] == 0 {
				zeros++
				b[16], b[17] = 255, 255
				if x, e := l4.ParseTcp(p[0], p[1], b); e != api.OK || !sameTcp(x, s) {
					t.Fatalf("%x: %v, %d", b, x, e)
				}
			}
		}
		if zeros == 0 {
			t.Error("no sum was 0")
		}
		b := tcpBytes(p[0], p[1], api.Tcp{Win: 9})
		right := int(binary.BigEndian.Uint16(b[16:]))
		for v := range 65536 {
			binary.BigEndian.PutUint16(b[16:], uint16(v))
			if x, e := l4.ParseTcp(p[0], p[1], b); (e == api.OK) != (v == right) || e != api.OK && (e != api.ErrTcpSum || !zeroTcp(x)) {
				t.Fatalf("%x: %v, %d", b, x, e)
			}
		}
	}
}

// 9.6, 9.10, 9.11: many bytes near to a segment, against the model.
func TestParseTcpOfSome(t *testing.T) {
	r := rand.New(rand.NewSource(1))
	counts, other := map[api.Errno]int{}, 0
	for range 200000 {
		src, dst := someIPs(r)
		b, whole := roomy(someTcpBytes(r, src, dst))
		kept := slices.Clone(whole)
		x, e := l4.ParseTcp(src, dst, b)
		m, want := modelTcp(src, dst, b)
		if e != want || !sameTcp(x, m) || e != api.OK && !zeroTcp(x) {
			t.Fatalf("ParseTcp(%v, %v, %x) = %v, %d, want %v, %d", src, dst, b, x, e, m, want)
		}
		counts[e]++
		if e == api.OK {
			w, e := l4.PutTcp(src, dst, x)
			if e != api.OK || l4.CheckTcp(x) != api.OK || !bytes.Equal(w, tcpBytes(src, dst, x)) {
				t.Fatalf("PutTcp(ParseTcp(%x)) = %x, %d", b, w, e)
			}
			if g, e := l4.ParseTcp(src, dst, w); e != api.OK || !sameTcp(g, x) {
				t.Fatalf("ParseTcp(%x) = %v, %d", w, g, e)
			}
			if !bytes.Equal(w, b) {
				other++
			}
		}
		if !bytes.Equal(whole, kept) {
			t.Fatalf("%x was changed", b)
		}
	}
	for _, e := range []api.Errno{api.OK, api.ErrFamily, api.ErrTcpShort, api.ErrTcpHead, api.ErrTcpSum, api.ErrTcpOption} {
		if counts[e] < 1000 {
			t.Errorf("error %d came only %d times", e, counts[e])
		}
	}
	if other < 1000 {
		t.Errorf("bytes that are not canonical came only %d times", other)
	}
}

// 9.11
func TestTcpComesBack(t *testing.T) {
	r := rand.New(rand.NewSource(2))
	for i := range 50000 {
		p := pairs[i%2]
		s := someTcp(r)
		if r.Intn(1000) == 0 {
			s.Data = some(r, mostTcp-len(optionBytes(s.Opts))-r.Intn(3))
		}
		b, e := l4.PutTcp(p[0], p[1], s)
		if e != api.OK || !bytes.Equal(b, tcpBytes(p[0], p[1], s)) {
			t.Fatalf("PutTcp(%v) = %x, %d", s, b, e)
		}
		if x, e := l4.ParseTcp(p[0], p[1], b); e != api.OK || !sameTcp(x, s) {
			t.Fatalf("ParseTcp(PutTcp(%v)) = %v, %d", s, x, e)
		}
	}
}

// 9.12: each bit of segments and of their addresses.
func TestEachBitOfTcp(t *testing.T) {
	r := rand.New(rand.NewSource(3))
	for i := range 300 {
		p, s := pairs[i%2], someTcp(r)
		b := tcpBytes(p[0], p[1], s)
		for k := range 8 * len(b) {
			b[k/8] ^= 1 << (k % 8)
			if x, e := l4.ParseTcp(p[0], p[1], b); e != api.ErrTcpSum && (e != api.ErrTcpHead || k/8 != 12 || k%8 < 4) || !zeroTcp(x) {
				t.Errorf("bit %d of %x: %v, %d", k, b, x, e)
			}
			b[k/8] ^= 1 << (k % 8)
		}
		for k := range 256 {
			src, dst := p[0], p[1]
			if k < 128 {
				src.A[k/8] ^= 1 << (k % 8)
			} else {
				dst.A[k/8-16] ^= 1 << (k % 8)
			}
			want := api.ErrTcpSum
			if !fit(src, dst) {
				want = api.ErrFamily
			}
			if x, e := l4.ParseTcp(src, dst, b); e != want || !zeroTcp(x) {
				t.Errorf("bit %d of the addresses: %v, %d", k, x, e)
			}
		}
	}
}

// 9.6, 9.10: Data and the options' data are windows of b, with a capacity of their length.
func TestTcpDataIsAWindow(t *testing.T) {
	for _, n := range []int{0, 1, 2, 9} {
		b, whole := roomy(tcpBytes(ten, two, api.Tcp{Opts: []api.Opt{opt(30, 1, 2), opt(4), opt(3, 7)}, Data: make([]byte, n)}))
		s, e := l4.ParseTcp(ten, two, b)
		if e != api.OK || len(s.Data) != n || cap(s.Data) != n || len(s.Opts) != 3 {
			t.Fatalf("%d bytes: %v of %d, %d", n, s, cap(s.Data), e)
		}
		want := slices.Clone(whole)
		for i := range s.Data {
			s.Data[i], want[32+i] = byte(50+i), byte(50+i)
		}
		s.Opts[0].Data[1], want[23] = 77, 77
		s.Opts[2].Data[0], want[28] = 78, 78
		for _, o := range s.Opts {
			if _ = append(o.Data, 99); cap(o.Data) != len(o.Data) {
				t.Errorf("option %d has %d bytes, capacity %d", o.Kind, len(o.Data), cap(o.Data))
			}
		}
		if _ = append(s.Data, 99); !bytes.Equal(whole, want) {
			t.Errorf("%d bytes: what is written into the windows is %x, want %x", n, whole, want)
		}
	}
}

// 9.10
func TestTcpIsLeft(t *testing.T) {
	data, whole := roomy([]byte{1, 2, 3})
	inner, more := roomy([]byte{7, 8})
	kept, keptMore := slices.Clone(whole), slices.Clone(more)
	opts := []api.Opt{{Kind: 30, Data: inner}, opt(4), opt(9, 9)}
	s := api.Tcp{Sport: 7, Opts: opts[:2], Data: data}
	want := tcpBytes(ten, two, s)
	b, e := l4.PutTcp(ten, two, s)
	if e != api.OK || l4.CheckTcp(s) != api.OK || !bytes.Equal(b, want) {
		t.Fatalf("%x, %d", b, e)
	}
	if scribble(b); !bytes.Equal(whole, kept) || !bytes.Equal(more, keptMore) || !sameOpts(opts[1:], []api.Opt{opt(4), opt(9, 9)}) {
		t.Error("PutTcp's answer shares the segment's memory")
	}
	if c, e := l4.PutTcp(ten, two, s); e != api.OK || !bytes.Equal(c, want) {
		t.Errorf("the second time: %x, %d", c, e)
	}
}
