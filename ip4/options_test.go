package ip4_test

import (
	"bytes"
	"math"
	"math/rand"
	"slices"
	"testing"

	"weir/api"
	"weir/ip4"
)

// 6.1
func TestOptions(t *testing.T) {
	long := slices.Concat([]byte{9, 40}, make([]byte, 38))
	rows := []struct {
		b    []byte
		want []api.Opt
		e    api.Errno
	}{
		{nil, nil, api.OK}, {[]byte{}, nil, api.OK}, {hx("00"), nil, api.OK}, {hx("01"), nil, api.OK}, {hx("01 01 01"), nil, api.OK},
		{hx("94 04 00 00 01 00 ff"), []api.Opt{opt(148, 0, 0)}, api.OK}, {hx("07 02"), []api.Opt{opt(7)}, api.OK}, {hx("ff 02"), []api.Opt{opt(255)}, api.OK}, {hx("02 03 01"), []api.Opt{opt(2, 1)}, api.OK},
		{hx("07 02 08 03 09"), []api.Opt{opt(7), opt(8, 9)}, api.OK}, {hx("01 07 02 01 01 07 03 00 01"), []api.Opt{opt(7), opt(7, 0)}, api.OK},
		{hx("00 07"), nil, api.OK}, {hx("00 94 ff"), nil, api.OK}, {hx("07 03 04 00 07 01"), []api.Opt{opt(7, 4)}, api.OK},
		{long, []api.Opt{opt(9, make([]byte, 38)...)}, api.OK}, {make([]byte, 40), nil, api.OK}, {bytes.Repeat([]byte{1}, 40), nil, api.OK}, {bytes.Repeat([]byte{2, 2}, 20), slices.Repeat([]api.Opt{opt(2)}, 20), api.OK},
		{hx("94 05 00 00"), nil, api.ErrIp4Option}, {hx("07"), nil, api.ErrIp4Option}, {hx("07 00"), nil, api.ErrIp4Option}, {hx("07 01"), nil, api.ErrIp4Option}, {hx("07 03"), nil, api.ErrIp4Option}, {hx("02 ff"), nil, api.ErrIp4Option},
		{hx("01 01 07"), nil, api.ErrIp4Option}, {hx("07 02 08"), nil, api.ErrIp4Option}, {hx("07 02 08 01"), nil, api.ErrIp4Option}, {hx("07 03 00 08 04 00"), nil, api.ErrIp4Option}, {hx("07 00 00 00"), nil, api.ErrIp4Option},
		{make([]byte, 41), nil, api.ErrIp4Option}, {bytes.Repeat([]byte{1}, 41), nil, api.ErrIp4Option}, {append(slices.Clone(long), 0), nil, api.ErrIp4Option}, {slices.Concat([]byte{9, 41}, make([]byte, 38)), nil, api.ErrIp4Option}, {slices.Concat([]byte{9, 41}, make([]byte, 39)), nil, api.ErrIp4Option}, {make([]byte, 70000), nil, api.ErrIp4Option},
	}
	for i, r := range rows {
		if l, e := ip4.Options(r.b); e != r.e || !sameOpts(l, r.want) || e != api.OK && l != nil {
			t.Errorf("%d: Options(%x) = %v, %d, want %v, %d", i, r.b[:min(len(r.b), 50)], l, e, r.want, r.e)
		}
	}
}

// 6.1: each kind with each length in each number of bytes that may hold it, or may just not.
func TestEachOption(t *testing.T) {
	for kind := range 256 {
		for size := range 256 {
			for _, n := range []int{2, 3, size - 1, size, size + 1, 40} {
				if n < 2 || n > 41 {
					continue
				}
				b := make([]byte, n)
				b[0], b[1] = byte(kind), byte(size)
				l, e := ip4.Options(b)
				want, ok := modelOptions(b)
				if (e == api.OK) != ok || e != api.OK && e != api.ErrIp4Option || !sameOpts(l, want) {
					t.Fatalf("Options(%x) = %v, %d, want %v, %t", b, l, e, want, ok)
				}
			}
		}
	}
}

// 6.1: any number of bytes up to 40.
func TestSomeOptions(t *testing.T) {
	r := rand.New(rand.NewSource(1))
	taken := 0
	for i := range 100000 {
		b, whole := roomy(someOptions(r, i%43))
		kept := slices.Clone(whole)
		l, e := ip4.Options(b)
		want, ok := modelOptions(b)
		if (e == api.OK) != ok || e != api.OK && (e != api.ErrIp4Option || l != nil) || !sameOpts(l, want) {
			t.Fatalf("Options(%x) = %v, %d, want %v, %t", b, l, e, want, ok)
		}
		if !bytes.Equal(whole, kept) {
			t.Fatalf("%x was changed", b)
		}
		if ok {
			taken++
		}
	}
	if taken < 20000 || taken > 80000 {
		t.Errorf("taken were %d of 100000", taken)
	}
}

// 6.1, 6.8: the data are windows, the list is new.
func TestOptionsAreWindows(t *testing.T) {
	b, whole := roomy(hx("01 07 05 01 02 03 09 02 0a 03 04"))
	kept := slices.Clone(whole)
	l, e := ip4.Options(b)
	if e != api.OK || len(l) != 3 {
		t.Fatalf("%v, %d", l, e)
	}
	for _, o := range l {
		if cap(o.Data) != len(o.Data) {
			t.Errorf("option %d has %d bytes, capacity %d", o.Kind, len(o.Data), cap(o.Data))
		}
		_ = append(o.Data, 77)
	}
	if !bytes.Equal(whole, kept) {
		t.Errorf("what was appended stands in %x", whole)
	}
	l[0].Data[2], l[2].Data[0] = 90, 91
	if b[5] != 90 || b[10] != 91 {
		t.Errorf("the data are not in the memory of %x", b)
	}
	m, _ := ip4.Options(b)
	m[0] = api.Opt{}
	if l[0].Kind != 7 {
		t.Error("two answers share their list")
	}
}

// 6.2
func TestPutOptions(t *testing.T) {
	most := make([]byte, 38)
	rows := []struct {
		l    []api.Opt
		want []byte
		e    api.Errno
	}{
		{nil, nil, api.OK}, {[]api.Opt{}, nil, api.OK}, {[]api.Opt{opt(7, 4)}, hx("07 03 04 00"), api.OK}, {[]api.Opt{opt(2)}, hx("02 02 00 00"), api.OK}, {[]api.Opt{opt(255, 1, 2)}, hx("ff 04 01 02"), api.OK}, {[]api.Opt{opt(148, 0, 0, 9)}, hx("94 05 00 00 09 00 00 00"), api.OK},
		{[]api.Opt{opt(7), opt(8)}, hx("07 02 08 02"), api.OK}, {[]api.Opt{opt(7, 1), opt(8), opt(9, 0)}, hx("07 03 01 08 02 09 03 00"), api.OK},
		{[]api.Opt{opt(9, most...)}, append(hx("09 28"), most...), api.OK}, {[]api.Opt{opt(9, most[1:]...)}, append(hx("09 27"), most...), api.OK}, {[]api.Opt{opt(9, most[2:]...), opt(3)}, slices.Concat(hx("09 26"), most[2:], hx("03 02")), api.OK}, {slices.Repeat([]api.Opt{opt(2)}, 20), bytes.Repeat(hx("02 02"), 20), api.OK},
		{[]api.Opt{opt(9, make([]byte, 39)...)}, nil, api.ErrIp4Option}, {[]api.Opt{opt(9, make([]byte, 254)...)}, nil, api.ErrIp4Option}, {[]api.Opt{opt(9, make([]byte, 256)...)}, nil, api.ErrIp4Option}, {[]api.Opt{opt(9, make([]byte, 70000)...)}, nil, api.ErrIp4Option},
		{[]api.Opt{opt(9, most[2:]...), opt(3, 1)}, nil, api.ErrIp4Option}, {[]api.Opt{opt(9, most...), opt(3)}, nil, api.ErrIp4Option}, {slices.Repeat([]api.Opt{opt(2)}, 21), nil, api.ErrIp4Option}, {slices.Repeat([]api.Opt{opt(2)}, 100000), nil, api.ErrIp4Option},
		{[]api.Opt{opt(0)}, nil, api.ErrIp4Option}, {[]api.Opt{opt(1)}, nil, api.ErrIp4Option}, {[]api.Opt{opt(256)}, nil, api.ErrIp4Option}, {[]api.Opt{opt(-1)}, nil, api.ErrIp4Option}, {[]api.Opt{opt(7), opt(1)}, nil, api.ErrIp4Option}, {[]api.Opt{opt(263)}, nil, api.ErrIp4Option}, {[]api.Opt{opt(-249)}, nil, api.ErrIp4Option}, {[]api.Opt{opt(math.MaxInt)}, nil, api.ErrIp4Option}, {[]api.Opt{opt(math.MinInt)}, nil, api.ErrIp4Option}, {[]api.Opt{opt(1<<32 + 7)}, nil, api.ErrIp4Option},
	}
	for i, r := range rows {
		if b, e := ip4.PutOptions(r.l); e != r.e || !bytes.Equal(b, r.want) || e != api.OK && b != nil {
			t.Errorf("%d: PutOptions = %x, %d, want %x, %d", i, b, e, r.want, r.e)
		}
	}
}

// 6.1, 6.2: what is put is read again, each kind and each number of bytes.
func TestEachOptionIsReadAgain(t *testing.T) {
	for kind := 2; kind < 256; kind++ {
		for n := range 39 {
			o := opt(kind, bytes.Repeat([]byte{0xab}, n)...)
			b, e := ip4.PutOptions([]api.Opt{o})
			if e != api.OK || len(b) != (n+5)/4*4 || int(b[0]) != kind || int(b[1]) != n+2 {
				t.Fatalf("PutOptions(%v) = %x, %d", o, b, e)
			}
			if l, e := ip4.Options(b); e != api.OK || !sameOpts(l, []api.Opt{o}) {
				t.Fatalf("Options(%x) = %v, %d", b, l, e)
			}
		}
	}
}

// 6.8
func TestPutOptionsLeavesThem(t *testing.T) {
	data, whole := roomy([]byte{1, 2, 3})
	kept := slices.Clone(whole)
	l := []api.Opt{{Kind: 7, Data: data}, opt(8), opt(9, 9)}
	b, e := ip4.PutOptions(l[:2])
	if e != api.OK || !bytes.Equal(b, hx("07 05 01 02 03 08 02 00")) {
		t.Fatalf("%x, %d", b, e)
	}
	for i := range b[:cap(b)] {
		b[:cap(b)][i] = 0xee
	}
	if !bytes.Equal(whole, kept) || l[0].Kind != 7 || l[1].Kind != 8 || !sameOpts(l[2:], []api.Opt{opt(9, 9)}) {
		t.Errorf("%x, %v", whole, l)
	}
}
