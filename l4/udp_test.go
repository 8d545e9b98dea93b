package l4_test

import (
	"bytes"
	"encoding/binary"
	"math"
	"math/bits"
	"math/rand"
	"slices"
	"testing"

	"weir/api"
	"weir/l4"
)

const mostUdp = 65527 // bytes of a datagram's Data

// 9.1, 9.3: the bytes of datagrams, written and read.
func TestBytesOfUdp(t *testing.T) {
	rows := []struct {
		src, dst api.IP
		u        api.Udp
		b        string
	}{
		{ten, two, api.Udp{Sport: 1, Dport: 2, Data: []byte("hi")}, "00 01 00 02 00 0a 83 6b 68 69"},
		{ten, two, api.Udp{Sport: 1, Dport: 2, NoSum: true, Data: []byte("hi")}, "00 01 00 02 00 0a 00 00 68 69"},
		{ten, two, api.Udp{}, "00 00 00 00 00 08 eb db"},
		{ten, two, api.Udp{NoSum: true}, "00 00 00 00 00 08 00 00"},
		{ten, two, api.Udp{Sport: 0xebdb}, "eb db 00 00 00 08 ff ff"},
		{ten, two, api.Udp{Dport: 0xebda}, "00 00 eb da 00 08 00 01"},
		{ten, two, api.Udp{Sport: 65535, Dport: 65535, Data: []byte{1}}, "ff ff ff ff 00 09 ea d9 01"},
		{six, seven, api.Udp{Sport: 1, Dport: 2, Data: []byte("hi")}, "00 01 00 02 00 0a 3b f9 68 69"},
		{api.IP{V: 6}, api.IP{V: 6}, api.Udp{}, "00 00 00 00 00 08 ff de"},
		{api.IP{V: 4}, api.IP{V: 4}, api.Udp{}, "00 00 00 00 00 08 ff de"},
		{api.IP{V: 6}, api.IP{V: 6}, api.Udp{Sport: 0xffde}, "ff de 00 00 00 08 ff ff"},
	}
	for i, r := range rows {
		b, e := l4.PutUdp(r.src, r.dst, r.u)
		if e != api.OK || !bytes.Equal(b, hx(r.b)) || !bytes.Equal(b, udpBytes(r.src, r.dst, r.u)) {
			t.Errorf("%d: PutUdp = %x, %d", i, b, e)
		}
		for _, more := range []string{"", "00", "ff", "01 02 03"} {
			if u, e := l4.ParseUdp(r.src, r.dst, hx(r.b+more)); e != api.OK || !sameUdp(u, r.u) {
				t.Errorf("%d: ParseUdp = %v, %d", i, u, e)
			}
		}
	}
}

// 9.1: wrong bytes.
func TestUdpIsRefused(t *testing.T) {
	rows := []struct {
		src, dst api.IP
		b        []byte
		want     api.Errno
	}{
		{ten, two, hx("00 01 00 02 00 0b 00 00 68 69"), api.ErrUdpLength}, {ten, two, hx("00 01 00 02 00 07 00 00 68 69"), api.ErrUdpLength}, {ten, two, hx("00 01 00 02 00 00 83 75 68 69"), api.ErrUdpLength}, {ten, two, hx("00 01 00 02 ff ff 00 00"), api.ErrUdpLength},
		{ten, two, nil, api.ErrUdpShort}, {ten, two, make([]byte, 7), api.ErrUdpShort}, {six, seven, make([]byte, 7), api.ErrUdpShort}, {ten, two, make([]byte, 8), api.ErrUdpLength},
		{ten, two, hx("00 01 00 02 00 0a 83 6c 68 69"), api.ErrUdpSum}, {ten, two, hx("00 01 00 02 00 0a ff ff 68 69"), api.ErrUdpSum}, {ten, two, hx("00 01 00 02 00 09 83 6b 68 69"), api.ErrUdpSum},
		{six, seven, hx("00 01 00 02 00 0a 00 00 68 69"), api.ErrUdpSum}, {six, seven, hx("00 01 00 02 00 0a 83 6b 68 69"), api.ErrUdpSum}, {api.IP{V: 6}, api.IP{V: 6}, hx("ff de 00 00 00 08 00 00"), api.ErrUdpSum},
		{ten, six, make([]byte, 7), api.ErrFamily}, {ten, two, make([]byte, 65536), api.ErrLong}, {none, none, make([]byte, 65536), api.ErrLong},
	}
	for i, r := range rows {
		if u, e := l4.ParseUdp(r.src, r.dst, r.b); e != r.want || !zeroUdp(u) {
			t.Errorf("%d: ParseUdp = %v, %d, want %d", i, u, e, r.want)
		}
	}
}

// 9.2, 9.3
func TestCheckUdp(t *testing.T) {
	type row struct {
		v    int
		u    api.Udp
		want api.Errno
	}
	rows := []row{
		{4, api.Udp{}, api.OK}, {6, api.Udp{}, api.OK}, {4, api.Udp{NoSum: true}, api.OK}, {6, api.Udp{NoSum: true}, api.ErrL4Field}, {5, api.Udp{Sport: -1}, api.ErrFamily}, {0, api.Udp{NoSum: true}, api.ErrFamily},
		{4, api.Udp{Data: make([]byte, mostUdp)}, api.OK}, {6, api.Udp{Data: make([]byte, mostUdp)}, api.OK}, {4, api.Udp{NoSum: true, Data: make([]byte, mostUdp)}, api.OK},
		{4, api.Udp{Data: make([]byte, mostUdp+1)}, api.ErrLong}, {6, api.Udp{Data: make([]byte, mostUdp+1)}, api.ErrLong}, {4, api.Udp{NoSum: true, Data: make([]byte, 65536)}, api.ErrLong}, {6, api.Udp{Data: make([]byte, 200000)}, api.ErrLong},
	}
	for _, v := range []int{math.MinInt, -6, -4, -1, 0, 1, 2, 3, 5, 7, 8, 46, 1<<32 + 4, 1<<32 + 6, math.MaxInt} {
		rows = append(rows, row{v, api.Udp{}, api.ErrFamily}, row{v, api.Udp{Dport: 65536, Data: make([]byte, 70000)}, api.ErrFamily})
	}
	for _, v := range []int{4, 6} {
		for _, n := range []int{math.MinInt, -1 << 32, -65536, -1, 65536, 65537, 1 << 32, 1<<32 + 8, math.MaxInt} {
			rows = append(rows, row{v, api.Udp{Sport: n}, api.ErrL4Field}, row{v, api.Udp{Dport: n}, api.ErrL4Field})
		}
		for _, n := range []int{1, 255, 256, 32768, 65534, 65535} {
			rows = append(rows, row{v, api.Udp{Sport: n}, api.OK}, row{v, api.Udp{Dport: n}, api.OK})
		}
	}
	for i, r := range rows {
		if e := l4.CheckUdp(r.v, r.u); e != r.want {
			t.Errorf("%d: CheckUdp = %d, want %d", i, e, r.want)
		}
		src, dst := api.IP{V: r.v}, api.IP{V: r.v}
		b, e := l4.PutUdp(src, dst, r.u)
		if e != r.want || e != api.OK && b != nil || e == api.OK && !bytes.Equal(b, udpBytes(src, dst, r.u)) {
			t.Errorf("%d: PutUdp has %d bytes, %d, want %d", i, len(b), e, r.want)
		}
		if u, e := l4.ParseUdp(src, dst, b); r.want == api.OK && (e != api.OK || !sameUdp(u, r.u)) {
			t.Errorf("%d: not read again: %d", i, e)
		}
	}
}

// 9.2, 9.3: of several faults the first in the document's order is told.
func TestPutUdpOrder(t *testing.T) {
	type call struct {
		src, dst api.IP
		u        api.Udp
	}
	faults := []struct {
		lay  func(*call)
		want api.Errno
	}{
		{func(c *call) { c.src = ten }, api.ErrFamily}, {func(c *call) { c.dst.V = 5 }, api.ErrFamily},
		{func(c *call) { c.u.Sport = -1 }, api.ErrL4Field}, {func(c *call) { c.u.Dport = 65536 }, api.ErrL4Field}, {func(c *call) { c.u.NoSum = true }, api.ErrL4Field},
		{func(c *call) { c.u.Data = make([]byte, mostUdp+1) }, api.ErrLong},
	}
	for set := range 1 << len(faults) {
		c, want := call{six, seven, api.Udp{Sport: 7}}, api.OK
		for i := len(faults) - 1; i >= 0; i-- {
			if set>>i&1 == 1 {
				faults[i].lay(&c)
				want = faults[i].want
			}
		}
		if b, e := l4.PutUdp(c.src, c.dst, c.u); e != want || e != api.OK && b != nil {
			t.Errorf("faults %b: PutUdp = %d, want %d", set, e, want)
		}
	}
}

// 9.1: of several faults the first in the document's order is told.
func TestParseUdpOrder(t *testing.T) {
	type call struct {
		src, dst api.IP
		b        []byte
	}
	faults := []struct {
		lay  func(*call)
		want api.Errno
	}{
		{func(c *call) { c.b = make([]byte, 65536) }, api.ErrLong},
		{func(c *call) { c.src = none }, api.ErrFamily}, {func(c *call) { c.dst = six }, api.ErrFamily},
		{func(c *call) { c.b = c.b[:7] }, api.ErrUdpShort},
		{func(c *call) { c.b[5] += 4 }, api.ErrUdpLength},
		{func(c *call) { c.b[6]++ }, api.ErrUdpSum},
	}
	for set := range 1 << len(faults) {
		c, want := call{ten, two, hx("00 01 00 02 00 0a 83 6b 68 69")}, api.OK
		for i := len(faults) - 1; i >= 0; i-- {
			if set>>i&1 == 1 {
				faults[i].lay(&c)
				want = faults[i].want
			}
		}
		if u, e := l4.ParseUdp(c.src, c.dst, c.b); e != want || e != api.OK && !zeroUdp(u) {
			t.Errorf("faults %b: ParseUdp = %v, %d, want %d", set, u, e, want)
		}
	}
}

// 9.1, 9.3, 9.6, 9.8: which two addresses fit.
func TestAddresses(t *testing.T) {
	all := []api.IP{none, ten, two, {V: 4}, {V: 4, A: [16]byte{10, 0, 0, 1, 1}}, {V: 4, A: [16]byte{10, 0, 0, 1, 15: 1}}, {V: 5}, {V: -4}, {V: 1<<32 + 4}, {V: 1<<32 + 6}, {A: [16]byte{1}}, {V: 6}, six, seven, ip("ff02::1"), ip("255.255.255.255")}
	for i, src := range all {
		for j, dst := range all {
			want := api.ErrFamily
			if fit(src, dst) {
				want = api.OK
			}
			u, s := api.Udp{Sport: 1, Data: []byte{1, 2, 3}}, api.Tcp{Dport: 2, Opts: []api.Opt{opt(4)}, Data: []byte{5}}
			b, e := l4.PutUdp(src, dst, u)
			if e != want || e != api.OK && b != nil || e == api.OK && !bytes.Equal(b, udpBytes(src, dst, u)) {
				t.Errorf("%d to %d: PutUdp = %x, %d, want %d", i, j, b, e, want)
			}
			if x, e := l4.ParseUdp(src, dst, udpBytes(src, dst, u)); e != want || e == api.OK && !sameUdp(x, u) || e != api.OK && !zeroUdp(x) {
				t.Errorf("%d to %d: ParseUdp = %v, %d, want %d", i, j, x, e, want)
			}
			b, e = l4.PutTcp(src, dst, s)
			if e != want || e != api.OK && b != nil || e == api.OK && !bytes.Equal(b, tcpBytes(src, dst, s)) {
				t.Errorf("%d to %d: PutTcp = %x, %d, want %d", i, j, b, e, want)
			}
			if x, e := l4.ParseTcp(src, dst, tcpBytes(src, dst, s)); e != want || e == api.OK && !sameTcp(x, s) || e != api.OK && !zeroTcp(x) {
				t.Errorf("%d to %d: ParseTcp = %v, %d, want %d", i, j, x, e, want)
			}
		}
	}
}

// 9.1: each length that a datagram may tell, in bytes of some lengths; the sum is over so many bytes and no more.
func TestEachUdpLength(t *testing.T) {
	for _, p := range pairs {
		for _, have := range []int{8, 9, 10, 1500, 65534, 65535} {
			b := bytes.Repeat([]byte{0xa5}, have)
			for n := range 65536 {
				if n > 40 && n < have-20 || n > have+20 && n < 65500 {
					continue
				}
				binary.BigEndian.PutUint16(b[4:], uint16(n))
				want := api.ErrUdpLength
				if n >= 8 && n <= have {
					summed(p[0], p[1], 17, 6, b[:n])
					want = api.OK
				}
				u, e := l4.ParseUdp(p[0], p[1], b)
				if e != want || e == api.OK && !bytes.Equal(u.Data, b[8:n]) || e != api.OK && !zeroUdp(u) {
					t.Fatalf("%d bytes, length %d: %d, want %d", have, n, e, want)
				}
			}
		}
	}
}

// 9.1: each number of bytes, whatever stands in the room behind them.
func TestUdpOfEachSize(t *testing.T) {
	for _, p := range pairs {
		for _, n := range []int{0, 1, 2, 3, 4, 5, 6, 7, 8, 9, 10, 11, 20, 1500, 1501, 65534, 65535, 65536, 65537, 200000} {
			b := bytes.Repeat([]byte{0xa5}, n)
			if n >= 8 {
				binary.BigEndian.PutUint16(b[4:], uint16(min(n, 65535)))
				summed(p[0], p[1], 17, 6, b)
			}
			b, whole := roomy(b)
			kept := slices.Clone(whole)
			u, e := l4.ParseUdp(p[0], p[1], b)
			x, want := modelUdp(p[0], p[1], b)
			if e != want || !sameUdp(u, x) || (e == api.OK) != (n >= 8 && n <= 65535) {
				t.Errorf("%d bytes: %d, want %d", n, e, want)
			}
			if !bytes.Equal(whole, kept) {
				t.Errorf("%d bytes: they were changed", n)
			}
		}
	}
}

// 9.1, 9.3: each port, and with it each sum: none is written as 0000.
func TestEachUdpSum(t *testing.T) {
	for _, p := range pairs {
		zeros := 0
		for port := range 65536 {
			u := api.Udp{Sport: port, Dport: 7, Data: []byte{1, 2, 3}}
			b, e := l4.PutUdp(p[0], p[1], u)
			if e != api.OK || b[6]|b[7] == 0 || !bytes.Equal(b, udpBytes(p[0], p[1], u)) {
				t.Fatalf("%v: %x, %d", u, b, e)
			}
			if b[6] == 255 && b[7] == 255 {
				zeros++
			}
			if x, e := l4.ParseUdp(p[0], p[1], b); e != api.OK || !sameUdp(x, u) {
				t.Fatalf("%x: %v, %d", b, x, e)
			}
		}
		if zeros == 0 {
			t.Error("no sum was 0")
		}
	}
}

// 9.1: each sum that may be stored; 0000 says that there is none, over version 4.
func TestEachStoredUdpSum(t *testing.T) {
	for _, p := range pairs {
		b := udpBytes(p[0], p[1], api.Udp{Sport: 9, Data: []byte("x")})
		right := int(binary.BigEndian.Uint16(b[6:]))
		for v := range 65536 {
			binary.BigEndian.PutUint16(b[6:], uint16(v))
			want := api.ErrUdpSum
			if v == right || v == 0 && p[0].V == 4 {
				want = api.OK
			}
			if u, e := l4.ParseUdp(p[0], p[1], b); e != want || u.NoSum != (e == api.OK && v == 0) {
				t.Fatalf("%x: %v, %d, want %d", b, u, e, want)
			}
		}
	}
}

// 9.1, 9.10, 9.11: many bytes near to a datagram, against the model.
func TestParseUdpOfSome(t *testing.T) {
	r := rand.New(rand.NewSource(1))
	counts, behind, ffff := map[api.Errno]int{}, 0, 0
	for range 200000 {
		src, dst := someIPs(r)
		b, whole := roomy(someUdpBytes(r, src, dst))
		kept := slices.Clone(whole)
		u, e := l4.ParseUdp(src, dst, b)
		x, want := modelUdp(src, dst, b)
		if e != want || !sameUdp(u, x) || e != api.OK && !zeroUdp(u) {
			t.Fatalf("ParseUdp(%v, %v, %x) = %v, %d, want %v, %d", src, dst, b, u, e, x, want)
		}
		counts[e]++
		if e == api.OK {
			n := 8 + len(u.Data)
			w, e := l4.PutUdp(src, dst, u)
			if e != api.OK || l4.CheckUdp(src.V, u) != api.OK || !bytes.Equal(w, b[:n]) || !bytes.Equal(w, udpBytes(src, dst, u)) {
				t.Fatalf("PutUdp(ParseUdp(%x)) = %x, %d", b, w, e)
			}
			if g, e := l4.ParseUdp(src, dst, w); e != api.OK || !sameUdp(g, u) {
				t.Fatalf("ParseUdp(%x) = %v, %d", w, g, e)
			}
			if n < len(b) {
				behind++
			}
			if b[6] == 255 && b[7] == 255 {
				ffff++
			}
		}
		if !bytes.Equal(whole, kept) {
			t.Fatalf("%x was changed", b)
		}
	}
	for _, e := range []api.Errno{api.OK, api.ErrFamily, api.ErrUdpShort, api.ErrUdpLength, api.ErrUdpSum} {
		if counts[e] < 1000 {
			t.Errorf("error %d came only %d times", e, counts[e])
		}
	}
	if behind < 1000 || ffff < 1000 {
		t.Errorf("bytes behind came %d times, ffff %d", behind, ffff)
	}
}

// 9.11
func TestUdpComesBack(t *testing.T) {
	r := rand.New(rand.NewSource(2))
	for i := range 50000 {
		p := pairs[i%2]
		u := someUdp(r, p[0].V)
		if r.Intn(1000) == 0 {
			u.Data = some(r, mostUdp-r.Intn(3))
		}
		b, e := l4.PutUdp(p[0], p[1], u)
		if e != api.OK || !bytes.Equal(b, udpBytes(p[0], p[1], u)) {
			t.Fatalf("PutUdp(%v) = %x, %d", u, b, e)
		}
		if x, e := l4.ParseUdp(p[0], p[1], b); e != api.OK || !sameUdp(x, u) {
			t.Fatalf("ParseUdp(PutUdp(%v)) = %v, %d", u, x, e)
		}
	}
}

// 9.12: each bit of datagrams, some of them with one bit in their sum, or with bytes behind them.
func TestEachBitOfUdp(t *testing.T) {
	r := rand.New(rand.NewSource(3))
	lost, lengths := 0, 0
	for i := range 600 {
		p := pairs[i%2]
		u := someUdp(r, p[0].V)
		u.NoSum = false
		if i < 32 { // a sum of one bit
			x := udpBytes(p[0], p[1], u)
			now := u.Sport + int(binary.BigEndian.Uint16(x[6:])) + 65535 - 1<<(i/2)
			u.Sport = now % 65535
		}
		b := udpBytes(p[0], p[1], u)
		if i < 32 && bits.OnesCount16(binary.BigEndian.Uint16(b[6:])) != 1 {
			t.Fatalf("%x has another sum", b)
		}
		if i%4 > 1 {
			b = append(b, some(r, 1+r.Intn(9))...)
		}
		for k := range 8 * (8 + len(u.Data)) {
			b[k/8] ^= 1 << (k % 8)
			x, e := l4.ParseUdp(p[0], p[1], b)
			isLength, noSum := k/8 == 4 || k/8 == 5, b[6]|b[7] == 0
			if e == api.OK && sameUdp(x, u) || e == api.OK && !isLength && !noSum {
				t.Errorf("bit %d of %x: %v, %d", k, b, x, e)
			}
			if e == api.OK && noSum {
				lost++
			}
			if e == api.OK && isLength {
				lengths++
			}
			b[k/8] ^= 1 << (k % 8)
		}
		for k := range 256 {
			src, dst := p[0], p[1]
			if k < 128 {
				src.A[k/8] ^= 1 << (k % 8)
			} else {
				dst.A[k/8-16] ^= 1 << (k % 8)
			}
			want := api.ErrUdpSum
			if !fit(src, dst) {
				want = api.ErrFamily
			}
			if x, e := l4.ParseUdp(src, dst, b); e != want || !zeroUdp(x) {
				t.Errorf("bit %d of the addresses: %v, %d", k, x, e)
			}
		}
	}
	if lost < 16 {
		t.Errorf("the sum became 0000 only %d times; a length was taken %d times", lost, lengths)
	}
}

// 9.1, 9.10: Data is a window of b, with a capacity of its length.
func TestUdpDataIsAWindow(t *testing.T) {
	for _, n := range []int{0, 1, 2, 9} {
		b, whole := roomy(append(udpBytes(ten, two, api.Udp{Data: make([]byte, n)}), 7, 7))
		u, e := l4.ParseUdp(ten, two, b)
		if e != api.OK || len(u.Data) != n || cap(u.Data) != n {
			t.Fatalf("%d bytes: %v of %d, %d", n, u, cap(u.Data), e)
		}
		want := slices.Clone(whole)
		for i := range u.Data {
			u.Data[i], want[8+i] = byte(50+i), byte(50+i)
		}
		if _ = append(u.Data, 99); !bytes.Equal(whole, want) {
			t.Errorf("%d bytes: what is written into Data is %x", n, whole)
		}
	}
}

// 9.10
func TestUdpIsLeft(t *testing.T) {
	for _, u := range []api.Udp{{Sport: 7}, {Dport: 9, NoSum: true}} {
		data, whole := roomy([]byte{1, 2, 3})
		u.Data = data
		kept, want := slices.Clone(whole), udpBytes(ten, two, u)
		b, e := l4.PutUdp(ten, two, u)
		if e != api.OK || l4.CheckUdp(4, u) != api.OK || !bytes.Equal(b, want) {
			t.Fatalf("%x, %d", b, e)
		}
		if scribble(b); !bytes.Equal(whole, kept) {
			t.Error("PutUdp's answer shares the datagram's memory")
		}
		if c, e := l4.PutUdp(ten, two, u); e != api.OK || !bytes.Equal(c, want) {
			t.Errorf("the second time: %x, %d", c, e)
		}
	}
}
