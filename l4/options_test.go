package l4_test

import (
	"bytes"
	"math"
	"math/rand"
	"slices"
	"testing"

	"weir/api"
	"weir/l4"
)

// 9.4
func TestTcpOptions(t *testing.T) {
	long := slices.Concat([]byte{30, 40}, make([]byte, 38))
	rows := []struct {
		b    []byte
		want []api.Opt
		e    api.Errno
	}{
		{nil, nil, api.OK}, {[]byte{}, nil, api.OK}, {hx("00"), nil, api.OK}, {hx("01"), nil, api.OK}, {hx("01 01 01"), nil, api.OK}, {hx("00 02"), nil, api.OK}, {hx("01 00 02 03"), nil, api.OK},
		{hx("02 04 05 b4 01 03 03 07"), []api.Opt{opt(2, 5, 0xb4), opt(3, 7)}, api.OK}, {hx("04 02 08 0a 00 00 00 01 00 00 00 02"), []api.Opt{opt(4), opt(8, 0, 0, 0, 1, 0, 0, 0, 2)}, api.OK},
		{hx("05 0a 01 02 03 04 05 06 07 08"), []api.Opt{opt(5, 1, 2, 3, 4, 5, 6, 7, 8)}, api.OK}, {hx("1e 02"), []api.Opt{opt(30)}, api.OK}, {hx("ff 03 01"), []api.Opt{opt(255, 1)}, api.OK}, {hx("04 02 04 02"), []api.Opt{opt(4), opt(4)}, api.OK}, {hx("06 02 07 02 09 02"), []api.Opt{opt(6), opt(7), opt(9)}, api.OK},
		{long, []api.Opt{opt(30, make([]byte, 38)...)}, api.OK}, {make([]byte, 40), nil, api.OK}, {bytes.Repeat([]byte{1}, 40), nil, api.OK}, {bytes.Repeat([]byte{4, 2}, 20), slices.Repeat([]api.Opt{opt(4)}, 20), api.OK},
		{hx("02 03 05"), nil, api.ErrTcpOption}, {hx("01 09"), nil, api.ErrTcpOption}, {hx("02"), nil, api.ErrTcpOption}, {hx("02 04 05"), nil, api.ErrTcpOption}, {hx("1e 00"), nil, api.ErrTcpOption}, {hx("1e 01"), nil, api.ErrTcpOption}, {hx("1e 03"), nil, api.ErrTcpOption}, {hx("1e ff"), nil, api.ErrTcpOption},
		{hx("03 02"), nil, api.ErrTcpOption}, {hx("03 04 00 00"), nil, api.ErrTcpOption}, {hx("04 03 00"), nil, api.ErrTcpOption}, {hx("05 02"), nil, api.ErrTcpOption}, {hx("08 02"), nil, api.ErrTcpOption}, {hx("05 0b 00 00 00 00 00 00 00 00 00"), nil, api.ErrTcpOption},
		{hx("04 02 1e"), nil, api.ErrTcpOption}, {hx("04 02 02 03 00"), nil, api.ErrTcpOption}, {hx("02 03 00 04 02"), nil, api.ErrTcpOption},
		{make([]byte, 41), nil, api.ErrTcpOption}, {bytes.Repeat([]byte{1}, 41), nil, api.ErrTcpOption}, {append(slices.Clone(long), 0), nil, api.ErrTcpOption}, {slices.Concat([]byte{30, 41}, make([]byte, 39)), nil, api.ErrTcpOption}, {make([]byte, 70000), nil, api.ErrTcpOption},
	}
	for i, r := range rows {
		if l, e := l4.TcpOptions(r.b); e != r.e || !sameOpts(l, r.want) || e != api.OK && l != nil {
			t.Errorf("%d: TcpOptions(%x) = %v, %d, want %v, %d", i, r.b[:min(len(r.b), 50)], l, e, r.want, r.e)
		}
	}
}

// 9.4: each kind with each length in each number of bytes that may hold it, or may just not.
func TestEachTcpOption(t *testing.T) {
	for kind := range 256 {
		for size := range 256 {
			for _, n := range []int{2, 3, size - 1, size, size + 1, 40} {
				if n < 2 || n > 41 {
					continue
				}
				b := make([]byte, n)
				b[0], b[1] = byte(kind), byte(size)
				l, e := l4.TcpOptions(b)
				want, ok := modelOptions(b)
				if (e == api.OK) != ok || e != api.OK && (e != api.ErrTcpOption || l != nil) || !sameOpts(l, want) {
					t.Fatalf("TcpOptions(%x) = %v, %d, want %v, %t", b, l, e, want, ok)
				}
			}
		}
	}
}

// 9.4: any number of bytes up to 40.
func TestSomeTcpOptions(t *testing.T) {
	r := rand.New(rand.NewSource(1))
	taken := 0
	for i := range 100000 {
		b, whole := roomy(someOptionBytes(r, i%43))
		kept := slices.Clone(whole)
		l, e := l4.TcpOptions(b)
		want, ok := modelOptions(b)
		if (e == api.OK) != ok || e != api.OK && (e != api.ErrTcpOption || l != nil) || !sameOpts(l, want) {
			t.Fatalf("TcpOptions(%x) = %v, %d, want %v, %t", b, l, e, want, ok)
		}
		if !bytes.Equal(whole, kept) {
			t.Fatalf("%x was changed", b)
		}
		if ok {
			taken++
		}
	}
	if taken < 20000 || taken > 80000 {
		t.Errorf("taken were %d of 100000", taken)
	}
}

// 9.4, 9.10: the data are windows, the list is new.
func TestTcpOptionsAreWindows(t *testing.T) {
	b, whole := roomy(hx("01 1e 05 01 02 03 04 02 03 03 07"))
	kept := slices.Clone(whole)
	l, e := l4.TcpOptions(b)
	if e != api.OK || len(l) != 3 {
		t.Fatalf("%v, %d", l, e)
	}
	for _, o := range l {
		if cap(o.Data) != len(o.Data) {
			t.Errorf("option %d has %d bytes, capacity %d", o.Kind, len(o.Data), cap(o.Data))
		}
		_ = append(o.Data, 77)
	}
	if !bytes.Equal(whole, kept) {
		t.Errorf("what was appended stands in %x", whole)
	}
	l[0].Data[2], l[2].Data[0] = 90, 91
	if b[5] != 90 || b[10] != 91 {
		t.Errorf("the data are not in the memory of %x", b)
	}
	m, _ := l4.TcpOptions(b)
	m[0] = api.Opt{}
	if l[0].Kind != 30 {
		t.Error("two answers share their list")
	}
}

// 9.5
func TestPutTcpOptions(t *testing.T) {
	most := make([]byte, 38)
	rows := []struct {
		l    []api.Opt
		want []byte
		e    api.Errno
	}{
		{nil, nil, api.OK}, {[]api.Opt{}, nil, api.OK}, {[]api.Opt{opt(3, 7), opt(2, 5, 0xb4)}, hx("03 03 07 02 04 05 b4 00"), api.OK}, {[]api.Opt{opt(4)}, hx("04 02 00 00"), api.OK}, {[]api.Opt{opt(255, 1, 2)}, hx("ff 04 01 02"), api.OK}, {[]api.Opt{opt(30, 0, 0, 9)}, hx("1e 05 00 00 09 00 00 00"), api.OK}, {[]api.Opt{opt(3, 7)}, hx("03 03 07 00"), api.OK},
		{[]api.Opt{opt(30, most...)}, append(hx("1e 28"), most...), api.OK}, {[]api.Opt{opt(30, most[1:]...)}, append(hx("1e 27"), most...), api.OK}, {[]api.Opt{opt(30, most[2:]...), opt(4)}, slices.Concat(hx("1e 26"), most[2:], hx("04 02")), api.OK}, {slices.Repeat([]api.Opt{opt(4)}, 20), bytes.Repeat(hx("04 02"), 20), api.OK},
		{[]api.Opt{opt(5, most[:32]...), opt(4), opt(2, 1, 2)}, slices.Concat(hx("05 22"), most[:32], hx("04 02 02 04 01 02")), api.OK},
		{[]api.Opt{opt(30, make([]byte, 39)...)}, nil, api.ErrTcpOption}, {[]api.Opt{opt(30, make([]byte, 254)...)}, nil, api.ErrTcpOption}, {[]api.Opt{opt(30, make([]byte, 256)...)}, nil, api.ErrTcpOption}, {[]api.Opt{opt(30, make([]byte, 70000)...)}, nil, api.ErrTcpOption}, {[]api.Opt{opt(2, make([]byte, 258)...)}, nil, api.ErrTcpOption},
		{[]api.Opt{opt(5, most[:32]...), opt(8, most[:8]...)}, nil, api.ErrTcpOption}, {[]api.Opt{opt(5, make([]byte, 40)...)}, nil, api.ErrTcpOption}, {[]api.Opt{opt(30, most[2:]...), opt(3, 1)}, nil, api.ErrTcpOption}, {[]api.Opt{opt(30, most...), opt(4)}, nil, api.ErrTcpOption}, {slices.Repeat([]api.Opt{opt(4)}, 21), nil, api.ErrTcpOption}, {slices.Repeat([]api.Opt{opt(4)}, 100000), nil, api.ErrTcpOption},
		{[]api.Opt{opt(2, 5)}, nil, api.ErrTcpOption}, {[]api.Opt{opt(4), opt(2)}, nil, api.ErrTcpOption}, {[]api.Opt{opt(2), opt(4)}, nil, api.ErrTcpOption},
		{[]api.Opt{opt(0)}, nil, api.ErrTcpOption}, {[]api.Opt{opt(1)}, nil, api.ErrTcpOption}, {[]api.Opt{opt(256)}, nil, api.ErrTcpOption}, {[]api.Opt{opt(-1)}, nil, api.ErrTcpOption}, {[]api.Opt{opt(4), opt(1)}, nil, api.ErrTcpOption}, {[]api.Opt{opt(260)}, nil, api.ErrTcpOption}, {[]api.Opt{opt(-252)}, nil, api.ErrTcpOption}, {[]api.Opt{opt(math.MaxInt)}, nil, api.ErrTcpOption}, {[]api.Opt{opt(math.MinInt)}, nil, api.ErrTcpOption}, {[]api.Opt{opt(1<<32 + 4)}, nil, api.ErrTcpOption},
	}
	for i, r := range rows {
		if b, e := l4.PutTcpOptions(r.l); e != r.e || !bytes.Equal(b, r.want) || e != api.OK && b != nil {
			t.Errorf("%d: PutTcpOptions = %x, %d, want %x, %d", i, b, e, r.want, r.e)
		}
	}
}

// 9.4, 9.5: each kind and each number of bytes: what is put is read again.
func TestEachTcpOptionIsReadAgain(t *testing.T) {
	for kind := -1; kind < 258; kind++ {
		for n := range 300 {
			l := []api.Opt{opt(kind, bytes.Repeat([]byte{0xab}, n)...)}
			b, e := l4.PutTcpOptions(l)
			if !optionsFit(l) {
				if e != api.ErrTcpOption || b != nil {
					t.Fatalf("PutTcpOptions(%v) = %x, %d", l, b, e)
				}
				continue
			}
			if e != api.OK || !bytes.Equal(b, optionBytes(l)) {
				t.Fatalf("PutTcpOptions(%v) = %x, %d", l, b, e)
			}
			if m, e := l4.TcpOptions(b); e != api.OK || !sameOpts(l, m) {
				t.Fatalf("TcpOptions(%x) = %v, %d", b, m, e)
			}
		}
	}
}

// 9.5, 9.11: many lists, some of them with one option more than has room, or with one that may not be.
func TestPutSomeTcpOptions(t *testing.T) {
	r := rand.New(rand.NewSource(2))
	refused := 0
	for range 50000 {
		l := someOptions(r)
		switch r.Intn(6) {
		case 0:
			l = append(l, someOption(r, 40))
		case 1:
			l = slices.Insert(l, r.Intn(len(l)+1), opt(r.Intn(10), some(r, r.Intn(9))...))
		}
		b, e := l4.PutTcpOptions(l)
		if !optionsFit(l) {
			refused++
			if e != api.ErrTcpOption || b != nil {
				t.Fatalf("PutTcpOptions(%v) = %x, %d", l, b, e)
			}
			continue
		}
		if e != api.OK || !bytes.Equal(b, optionBytes(l)) {
			t.Fatalf("PutTcpOptions(%v) = %x, %d", l, b, e)
		}
		if m, e := l4.TcpOptions(b); e != api.OK || !sameOpts(l, m) {
			t.Fatalf("TcpOptions(%x) = %v, %d", b, m, e)
		}
	}
	if refused < 5000 {
		t.Errorf("only %d were refused", refused)
	}
}

// 9.10
func TestPutTcpOptionsLeavesThem(t *testing.T) {
	data, whole := roomy([]byte{1, 2, 3})
	kept := slices.Clone(whole)
	l := []api.Opt{{Kind: 30, Data: data}, opt(4), opt(9, 9)}
	b, e := l4.PutTcpOptions(l[:2])
	if e != api.OK || !bytes.Equal(b, hx("1e 05 01 02 03 04 02 00")) {
		t.Fatalf("%x, %d", b, e)
	}
	scribble(b)
	if !bytes.Equal(whole, kept) || l[0].Kind != 30 || l[1].Kind != 4 || !sameOpts(l[2:], []api.Opt{opt(9, 9)}) {
		t.Errorf("%x, %v", whole, l)
	}
}
