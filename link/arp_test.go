package link_test

import (
	"bytes"
	"encoding/binary"
	"math"
	"math/rand"
	"slices"
	"testing"

	"weir/api"
	"weir/link"
)

func four(a, b, c, d byte) api.IP { return api.IP{V: 4, A: [16]byte{a, b, c, d}} }

func asks() api.Arp { return api.Arp{Op: 1, SMac: one, SIP: four(10, 0, 0, 1), TIP: four(10, 0, 0, 2)} }

// askBytes are those of asks.
func askBytes() []byte {
	return []byte{0, 1, 8, 0, 6, 4, 0, 1, 2, 0, 0, 0, 0, 1, 10, 0, 0, 1, 0, 0, 0, 0, 0, 0, 10, 0, 0, 2}
}

// turned is askBytes with other bytes from at on.
func turned(at int, v ...byte) []byte {
	b := askBytes()
	copy(b[at:], v)
	return b
}

// 5.7, 5.8
func TestBytesOfArp(t *testing.T) {
	rows := []struct {
		b []byte
		a api.Arp
	}{
		{askBytes(), asks()},
		{turned(6, 0, 2), api.Arp{Op: 2, SMac: one, SIP: four(10, 0, 0, 1), TIP: four(10, 0, 0, 2)}},
		{turned(8, 0xfe, 0xff, 0xff, 0xff, 0xff, 0xff, 1, 2, 3, 4, 5, 6, 7, 8, 9, 10, 11, 12, 13, 14), api.Arp{Op: 1, SMac: api.Mac{0xfe, 0xff, 0xff, 0xff, 0xff, 0xff}, SIP: four(1, 2, 3, 4), TMac: api.Mac{5, 6, 7, 8, 9, 10}, TIP: four(11, 12, 13, 14)}},
		{turned(8, 0, 0, 0, 0, 0, 1, 0, 0, 0, 0, 255, 255, 255, 255, 255, 255, 255, 255, 255, 255), api.Arp{Op: 1, SMac: api.Mac{5: 1}, SIP: four(0, 0, 0, 0), TMac: all, TIP: four(255, 255, 255, 255)}},
		{turned(8, 2, 0, 0, 0, 0, 0), api.Arp{Op: 1, SMac: api.Mac{2}, SIP: four(10, 0, 0, 1), TIP: four(10, 0, 0, 2)}},
	}
	for i, r := range rows {
		if a, e := link.ParseArp(r.b); e != api.OK || a != r.a {
			t.Errorf("%d: ParseArp = %v, %d", i, a, e)
		}
		if b, e := link.PutArp(r.a); e != api.OK || !bytes.Equal(b, r.b) {
			t.Errorf("%d: PutArp = %x, %d", i, b, e)
		}
	}
}

// 5.7
func TestParseArpRefuses(t *testing.T) {
	rows := []struct {
		b    []byte
		want api.Errno
	}{
		{nil, api.ErrArpShort}, {[]byte{}, api.ErrArpShort}, {askBytes()[:27], api.ErrArpShort}, {turned(0, 9)[:27], api.ErrArpShort}, {make([]byte, 27), api.ErrArpShort}, {make([]byte, 28), api.ErrArpForm}, {make([]byte, 65536), api.ErrLong}, {append(askBytes(), make([]byte, 65508)...), api.ErrLong},
		{turned(6, 0, 0), api.ErrArpOp}, {turned(6, 0, 3), api.ErrArpOp}, {turned(6, 1, 1), api.ErrArpOp}, {turned(6, 1, 2), api.ErrArpOp}, {turned(6, 1, 0), api.ErrArpOp}, {turned(6, 0xff, 0xff), api.ErrArpOp},
		{turned(6, 0, 3, 0, 0, 0, 0, 0, 0), api.ErrArpOp}, {turned(6, 0, 3, 1), api.ErrArpOp}, {turned(5, 6, 0, 3), api.ErrArpForm}, {turned(5, 6, 0, 1, 1), api.ErrArpForm},
		{turned(8, 0, 0, 0, 0, 0, 0), api.ErrArpMac}, {turned(8, 3), api.ErrArpMac}, {turned(8, 1, 0, 0, 0, 0, 0), api.ErrArpMac}, {turned(8, 255, 255, 255, 255, 255, 255), api.ErrArpMac},
	}
	for i, r := range rows {
		if a, e := link.ParseArp(r.b); e != r.want || a != (api.Arp{}) {
			t.Errorf("%d: ParseArp = %v, %d, want %d", i, a, e, r.want)
		}
	}
	for at := range 6 { // each bit of what each message begins with
		for bit := range 8 {
			b := askBytes()
			b[at] ^= 1 << bit
			if a, e := link.ParseArp(b); e != api.ErrArpForm || a != (api.Arp{}) {
				t.Errorf("byte %d, bit %d: %v, %d", at, bit, a, e)
			}
		}
	}
}

// 5.7: each length, whatever stands in the room behind it; and what stands behind the message is not looked at.
func TestParseArpLengths(t *testing.T) {
	long := append(askBytes(), bytes.Repeat([]byte{0xff}, 65535-28)...)
	for _, n := range []int{0, 1, 6, 8, 14, 27, 28, 29, 46, 60, 1500, 65534, 65535} {
		want, wantE := api.Arp{}, api.ErrArpShort
		if n >= 28 {
			want, wantE = asks(), api.OK
		}
		if a, e := link.ParseArp(long[:n]); e != wantE || a != want {
			t.Errorf("%d bytes: %v, %d", n, a, e)
		}
	}
}

// 5.8
func TestPutArpRefuses(t *testing.T) {
	type row struct {
		turn func(*api.Arp)
		want api.Errno
	}
	rows := []row{
		{func(a *api.Arp) { a.SMac = api.Mac{} }, api.ErrArpMac}, {func(a *api.Arp) { a.SMac = all }, api.ErrArpMac}, {func(a *api.Arp) { a.SMac[0] |= 1 }, api.ErrArpMac}, {func(a *api.Arp) { a.SMac, a.SIP = api.Mac{}, api.IP{} }, api.ErrArpMac},
		{func(a *api.Arp) { *a = api.Arp{} }, api.ErrArpOp}, {func(a *api.Arp) { a.Op, a.SMac = 3, all }, api.ErrArpOp}, {func(a *api.Arp) { a.Op, a.TIP = 0, api.IP{} }, api.ErrArpOp},
		{func(a *api.Arp) { a.SIP = api.IP{} }, api.ErrFamily}, {func(a *api.Arp) { a.TIP = api.IP{} }, api.ErrFamily}, {func(a *api.Arp) { a.SIP, a.TIP = api.IP{V: 6}, api.IP{V: 6} }, api.ErrFamily},
		{func(a *api.Arp) { a.TMac = all }, api.OK}, {func(a *api.Arp) { a.SIP, a.TIP = api.IP{V: 4}, api.IP{V: 4} }, api.OK},
	}
	for _, n := range []int{math.MinInt, -2, -1, 0, 3, 256, 257, 1<<16 + 1, 1<<16 + 2, 1<<32 + 1, math.MaxInt} {
		rows = append(rows, row{func(a *api.Arp) { a.Op = n }, api.ErrArpOp})
	}
	for _, v := range []int{math.MinInt, -4, 0, 3, 5, 6, 1<<8 + 4, 1<<32 + 4, math.MaxInt} {
		rows = append(rows, row{func(a *api.Arp) { a.SIP.V = v }, api.ErrFamily}, row{func(a *api.Arp) { a.TIP.V = v }, api.ErrFamily})
	}
	for at := 4; at < 16; at++ {
		rows = append(rows, row{func(a *api.Arp) { a.SIP.A[at] = 1 }, api.ErrFamily}, row{func(a *api.Arp) { a.TIP.A[at] = 0x80 }, api.ErrFamily})
	}
	for i, r := range rows {
		a := asks()
		r.turn(&a)
		if b, e := link.PutArp(a); e != r.want || (b == nil) != (e != api.OK) {
			t.Errorf("%d: PutArp(%v) = %x, %d, want %d", i, a, b, e, r.want)
		}
	}
}

// modelArp reads a message by places.
func modelArp(b []byte) (api.Arp, api.Errno) {
	op := int(binary.BigEndian.Uint16(b[6:]))
	switch mac := api.Mac(b[8:14]); {
	case !bytes.HasPrefix(b, []byte{0, 1, 8, 0, 6, 4}):
		return api.Arp{}, api.ErrArpForm
	case op < 1 || op > 2:
		return api.Arp{}, api.ErrArpOp
	case mac == api.Mac{} || mac[0]%2 == 1:
		return api.Arp{}, api.ErrArpMac
	default:
		return api.Arp{Op: op, SMac: mac, SIP: four(b[14], b[15], b[16], b[17]), TMac: api.Mac(b[18:24]), TIP: four(b[24], b[25], b[26], b[27])}, api.OK
	}
}

// 5.7, 5.9
func TestArpOneForm(t *testing.T) {
	r := rand.New(rand.NewSource(7))
	for range 50000 {
		m := askBytes()
		r.Read(m[8:])
		m[7] = byte(r.Intn(4))
		if r.Intn(10) == 0 {
			m[r.Intn(14)] = byte(r.Intn(3))
		}
		b, whole := roomy(slices.Concat(m, make([]byte, r.Intn(20))))
		kept := slices.Clone(whole)
		a, e := link.ParseArp(b)
		if want, wantE := modelArp(b); e != wantE || a != want {
			t.Fatalf("ParseArp(%x) = %v, %d, want %v, %d", b, a, e, want, wantE)
		}
		if !bytes.Equal(whole, kept) {
			t.Fatalf("%x was changed", b)
		}
		if e != api.OK {
			continue
		}
		w, e := link.PutArp(a)
		if e != api.OK || !bytes.Equal(w, b[:28]) {
			t.Fatalf("PutArp(ParseArp(%x)) = %x, %d", b, w, e)
		}
		if again, e := link.ParseArp(w); e != api.OK || again != a {
			t.Fatalf("ParseArp(PutArp(%v)) = %v, %d", a, again, e)
		}
	}
}

// 5.10
func TestArpIsNew(t *testing.T) {
	b, _ := link.PutArp(asks())
	for i := range b[:cap(b)] {
		b[:cap(b)][i] = 0xee
	}
	if c, e := link.PutArp(asks()); e != api.OK || !bytes.Equal(c, askBytes()) {
		t.Errorf("the second time: %x, %d", c, e)
	}
}
