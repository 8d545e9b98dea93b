package icmp_test

import (
	"bytes"
	"math"
	"math/rand"
	"slices"
	"testing"

	"weir/api"
	"weir/icmp"
)

const own = "02 00 00 00 00 01" // the bytes of mac

// about is Data about l, with options behind it.
func about(options string) []byte { return append(slices.Clone(l.A[:]), hx(options)...) }

// 8.8, 8.9: the messages of neighbour discovery, read and put.
func TestMessagesOfND(t *testing.T) {
	rows := []struct {
		n api.ND
		x api.Icmp
	}{
		{api.ND{Kind: 1, Target: l, HasMac: true, Mac: mac}, api.Icmp{V: 6, Type: 135, Data: about("01 01" + own)}},
		{api.ND{Kind: 2, Target: l, HasMac: true, Mac: mac}, api.Icmp{V: 6, Type: 136, Data: about("02 01" + own)}},
		{api.ND{Kind: 1, Target: l}, api.Icmp{V: 6, Type: 135, Data: about("")}},
		{api.ND{Kind: 2, Target: l}, api.Icmp{V: 6, Type: 136, Data: about("")}},
		{api.ND{Kind: 1, Target: l, HasMac: true}, api.Icmp{V: 6, Type: 135, Data: about("01 01 00 00 00 00 00 00")}},
		{api.ND{Kind: 2, Target: l, HasMac: true, Mac: api.Mac{255, 255, 255, 255, 255, 255}}, api.Icmp{V: 6, Type: 136, Data: about("02 01 ff ff ff ff ff ff")}},
		{api.ND{Kind: 2, Target: l, Router: true}, api.Icmp{V: 6, Type: 136, Rest: 2147483648, Data: about("")}},
		{api.ND{Kind: 2, Target: l, Solicited: true}, api.Icmp{V: 6, Type: 136, Rest: 1073741824, Data: about("")}},
		{api.ND{Kind: 2, Target: l, Override: true}, api.Icmp{V: 6, Type: 136, Rest: 536870912, Data: about("")}},
		{api.ND{Kind: 2, Target: l, Solicited: true, Override: true}, api.Icmp{V: 6, Type: 136, Rest: 1610612736, Data: about("")}},
		{api.ND{Kind: 2, Target: l, Router: true, Solicited: true, Override: true, HasMac: true, Mac: mac}, api.Icmp{V: 6, Type: 136, Rest: 3758096384, Data: about("02 01" + own)}},
		{api.ND{Kind: 1, Target: ip("::1")}, api.Icmp{V: 6, Type: 135, Data: append(make([]byte, 15), 1)}},
		{api.ND{Kind: 1, Target: ip("fe80::1")}, api.Icmp{V: 6, Type: 135, Data: hx("fe 80 00 00 00 00 00 00 00 00 00 00 00 00 00 01")}},
	}
	for i, r := range rows {
		if x, e := icmp.PutND(r.n); e != api.OK || !same(x, r.x) || icmp.Check(x) != api.OK {
			t.Errorf("%d: PutND = %v, %d", i, x, e)
		}
		if n, e := icmp.ParseND(r.x); e != api.OK || n != r.n {
			t.Errorf("%d: ParseND = %v, %d", i, n, e)
		}
	}
}

// 8.8: what is let go.
func TestParseNDLetsGo(t *testing.T) {
	rows := []struct {
		kind, rest int
		options    string
		want       api.ND
	}{
		{2, 1<<31 + 1, "", api.ND{Router: true}}, {2, 1<<32 - 1, "", api.ND{Router: true, Solicited: true, Override: true}}, {2, 1<<29 - 1, "", api.ND{}}, {1, 1<<32 - 1, "", api.ND{}}, {1, 1 << 31, "01 01" + own, api.ND{HasMac: true, Mac: mac}},
		{1, 0, "02 01" + own, api.ND{}}, {2, 0, "01 01" + own, api.ND{}}, {1, 0, "00 01" + own, api.ND{}}, {2, 0, "ff 01" + own, api.ND{}}, {1, 0, "81 01" + own, api.ND{}},
		{1, 0, "01 01" + own + "01 01 09 09 09 09 09 09", api.ND{HasMac: true, Mac: mac}}, {2, 0, "02 01" + own + "02 01 09 09 09 09 09 09", api.ND{HasMac: true, Mac: mac}}, {1, 0, "01 01 00 00 00 00 00 00 01 01" + own, api.ND{HasMac: true}},
		{1, 0, "0e 01 09 09 09 09 09 09 01 01" + own, api.ND{HasMac: true, Mac: mac}}, {2, 0, "01 01 09 09 09 09 09 09 02 01" + own, api.ND{HasMac: true, Mac: mac}}, {1, 0, "02 02 01 01 01 01 01 01 01 01 09 09 09 09 09 09 01 01" + own, api.ND{HasMac: true, Mac: mac}}, {1, 0, "01 01" + own + "0e 01 09 09 09 09 09 09", api.ND{HasMac: true, Mac: mac}},
	}
	for i, r := range rows {
		r.want.Kind, r.want.Target = r.kind, l
		if n, e := icmp.ParseND(api.Icmp{V: 6, Type: 134 + r.kind, Rest: r.rest, Data: about(r.options)}); e != api.OK || n != r.want {
			t.Errorf("%d: %v, %d", i, n, e)
		}
	}
}

// 8.8: each length of an option, of one that has the link address and of others, with more bytes and fewer than it says.
func TestParseNDOptions(t *testing.T) {
	for kind := 1; kind <= 2; kind++ {
		for _, option := range []byte{0, 1, 2, 3, 14, 255} {
			for n := range 256 {
				for _, have := range []int{8*n - 7, 8*n - 1, 8 * n, 8*n + 1} {
					if have < 1 {
						continue
					}
					data := make([]byte, 16+max(have, 2))
					copy(data, l.A[:])
					data[16], data[17] = option, byte(n)
					data = data[:16+have]
					want, wantE := api.ND{Kind: kind, Target: l, HasMac: int(option) == kind}, api.OK
					if n == 0 || have != 8*n || int(option) == kind && n != 1 {
						want, wantE = api.ND{}, api.ErrNdOption
					}
					whole := slices.Clip(append(data, bytes.Repeat([]byte{1}, 2100)...)) // the room behind Data is not read
					if g, e := icmp.ParseND(api.Icmp{V: 6, Type: 134 + kind, Data: whole[:len(data)]}); e != wantE || g != want {
						t.Fatalf("Kind %d, option %d, %d, of %d bytes: %v, %d, want %d", kind, option, n, have, g, e, wantE)
					}
				}
			}
		}
	}
	for i, options := range []string{"01", "05", "0e 00 00 00 00 00 00 00", "0e 00", "01 00", "01 02 00 00 00 00 00 00 00 00 00 00 00 00 00 00", "01 01" + own + "01 02 00 00 00 00 00 00 00 00 00 00 00 00 00 00", "01 01" + own + "01 00", "01 01" + own + "0e", "0e 02 00 00 00 00 00 00", "01 01 02 00 00 00 00"} {
		if n, e := icmp.ParseND(api.Icmp{V: 6, Type: 135, Data: about(options)}); e != api.ErrNdOption || n != (api.ND{}) {
			t.Errorf("%d: %v, %d", i, n, e)
		}
	}
}

// 8.8: which messages are those of neighbours.
func TestParseNDOfEachType(t *testing.T) {
	for _, v := range []int{4, 6} {
		for kind := range 256 {
			for _, code := range []int{0, 1, 2, 128, 255} {
				n, e := icmp.ParseND(api.Icmp{V: v, Type: kind, Code: code, Data: about("")})
				want, wantE := api.ND{}, api.ErrNotND
				if v == 6 && code == 0 && (kind == 135 || kind == 136) {
					want, wantE = api.ND{Kind: kind - 134, Target: l}, api.OK
				}
				if e != wantE || n != want {
					t.Errorf("version %d, Type %d, Code %d: %v, %d", v, kind, code, n, e)
				}
			}
		}
	}
}

// 8.8
func TestParseNDRefuses(t *testing.T) {
	long := bytes.Repeat(hx("0e 01 00 00 00 00 00 00"), 9000)
	copy(long, about(""))
	rows := []struct {
		x    api.Icmp
		want api.Errno
	}{
		{api.Icmp{}, api.ErrArg}, {api.Icmp{V: 5, Type: 135, Data: about("")}, api.ErrArg}, {api.Icmp{V: 6, Type: 135, Rest: -1, Data: about("")}, api.ErrIcmpField}, {api.Icmp{V: 6, Type: 135, Code: 256, Data: about("")}, api.ErrIcmpField}, {api.Icmp{V: 6, Type: 135 + 256, Data: about("")}, api.ErrIcmpField}, {api.Icmp{V: 6, Type: 135, Data: long[:most+1]}, api.ErrLong}, {api.Icmp{V: 6, Type: 135, Data: long[:most]}, api.ErrNdOption}, {api.Icmp{V: 6, Type: 135, Data: long[:65504]}, api.OK},
		{api.Icmp{V: 6, Type: 135}, api.ErrNdShort}, {api.Icmp{V: 6, Type: 136, Data: l.A[:1]}, api.ErrNdShort}, {api.Icmp{V: 6, Type: 135, Data: l.A[:15]}, api.ErrNdShort}, {api.Icmp{V: 6, Type: 135, Data: make([]byte, 15)}, api.ErrNdShort},
		{api.Icmp{V: 6, Type: 135, Data: make([]byte, 16)}, api.ErrNdTarget}, {api.Icmp{V: 6, Type: 136, Data: make([]byte, 24)}, api.ErrNdTarget}, {api.Icmp{V: 6, Type: 135, Data: append(hx("ff 02"), make([]byte, 14)...)}, api.ErrNdTarget}, {api.Icmp{V: 6, Type: 136, Data: bytes.Repeat([]byte{255}, 16)}, api.ErrNdTarget},
	}
	for i, r := range rows {
		if n, e := icmp.ParseND(r.x); e != r.want || e != api.OK && n != (api.ND{}) {
			t.Errorf("%d: %v, %d, want %d", i, n, e, r.want)
		}
	}
}

// 8.8: of several faults the first in the document's order is told; of options the first from the left.
func TestParseNDOrder(t *testing.T) {
	faults := []struct {
		lay  func(*api.Icmp)
		want api.Errno
	}{
		{func(x *api.Icmp) { x.Rest = -1 }, api.ErrIcmpField},
		{func(x *api.Icmp) { x.Type = 137 }, api.ErrNotND}, {func(x *api.Icmp) { x.V = 4 }, api.ErrNotND}, {func(x *api.Icmp) { x.Code = 1 }, api.ErrNotND},
		{func(x *api.Icmp) { x.Data = x.Data[:15] }, api.ErrNdShort},
		{func(x *api.Icmp) { x.Data[0] = 255 }, api.ErrNdTarget},
		{func(x *api.Icmp) { x.Data = append(x.Data, 5) }, api.ErrNdOption},
	}
	for set := range 1 << len(faults) {
		x, want := api.Icmp{V: 6, Type: 135, Data: about("")}, api.OK
		for i := len(faults) - 1; i >= 0; i-- {
			if set>>i&1 == 1 {
				faults[i].lay(&x)
				want = faults[i].want
			}
		}
		if n, e := icmp.ParseND(x); e != want || e != api.OK && n != (api.ND{}) {
			t.Errorf("faults %b: ParseND = %v, %d, want %d", set, n, e, want)
		}
	}
}

// 8.9
func TestPutNDRefuses(t *testing.T) {
	type row struct {
		n    api.ND
		want api.Errno
	}
	rows := []row{
		{api.ND{}, api.ErrArg}, {api.ND{Kind: 1, Target: l, Router: true}, api.ErrArg}, {api.ND{Kind: 1, Target: l, Solicited: true}, api.ErrArg}, {api.ND{Kind: 1, Target: l, Override: true}, api.ErrArg}, {api.ND{Kind: 1, Target: l, Mac: mac}, api.ErrArg}, {api.ND{Kind: 2, Target: l, Mac: mac}, api.ErrArg}, {api.ND{Kind: 2, Target: l, Mac: api.Mac{5: 1}}, api.ErrArg}, {api.ND{Kind: 2, Target: l, Mac: api.Mac{128}}, api.ErrArg},
		{api.ND{Kind: 1, Target: none, Router: true}, api.ErrArg}, {api.ND{Kind: 1, Target: none, Mac: mac}, api.ErrArg}, {api.ND{Kind: 3, Target: none}, api.ErrArg},
	}
	for _, kind := range []int{math.MinInt, -2, -1, 0, 3, 4, 135, 136, 257, 258, 1<<32 + 1, 1<<32 + 2, math.MaxInt} {
		rows = append(rows, row{api.ND{Kind: kind, Target: l}, api.ErrArg}, row{api.ND{Kind: kind, Target: l, HasMac: true, Mac: mac}, api.ErrArg})
	}
	for kind := 1; kind <= 2; kind++ {
		for _, a := range []api.IP{none, {A: [16]byte{1}}, {V: 5}, {V: 7}, {V: 1<<32 + 6, A: l.A}, {V: -6, A: l.A}, ten, ip("224.0.0.1"), ip("0.0.0.0"), {V: 4, A: l.A}, ip("::"), ip("ff00::"), ip("ff02::1"), ip("ffff::")} {
			rows = append(rows, row{api.ND{Kind: kind, Target: a}, api.ErrNdTarget}, row{api.ND{Kind: kind, Target: a, HasMac: true, Mac: mac}, api.ErrNdTarget})
		}
		for _, a := range []api.IP{l, ip("::1"), ip("::2"), ip("fe80::"), ip("feff::"), ip("100::")} {
			rows = append(rows, row{api.ND{Kind: kind, Target: a}, api.OK}, row{api.ND{Kind: kind, Target: a, HasMac: true}, api.OK})
		}
	}
	for i, r := range rows {
		x, e := icmp.PutND(r.n)
		if e != r.want || e != api.OK && !zero(x) {
			t.Errorf("%d: PutND(%v) = %v, %d, want %d", i, r.n, x, e, r.want)
		}
		if n, e := icmp.ParseND(x); r.want == api.OK && (e != api.OK || n != r.n) {
			t.Errorf("%d: not read again: %v, %d", i, n, e)
		}
	}
}

// 8.8, 8.10: many messages near to a neighbour's, against the model; what is read is put and read again.
func TestParseNDOfSome(t *testing.T) {
	r := rand.New(rand.NewSource(5))
	counts, macs := map[api.Errno]int{}, 0
	for range 200000 {
		x := someND(r)
		data, whole := roomy(x.Data)
		x.Data = data
		kept := slices.Clone(whole)
		n, e := icmp.ParseND(x)
		if g, want := modelND(x); e != want || n != g {
			t.Fatalf("ParseND(%v) = %v, %d, want %v, %d", x, n, e, g, want)
		}
		if !bytes.Equal(whole, kept) {
			t.Fatalf("%v was changed", x)
		}
		counts[e]++
		if e != api.OK {
			continue
		}
		if n.HasMac {
			macs++
		}
		y, e := icmp.PutND(n)
		if again, f := icmp.ParseND(y); e != api.OK || f != api.OK || again != n {
			t.Fatalf("PutND(%v) = %v, %d, read as %v, %d", n, y, e, again, f)
		}
	}
	for _, e := range []api.Errno{api.OK, api.ErrNotND, api.ErrNdShort, api.ErrNdOption, api.ErrNdTarget} {
		if counts[e] < 1000 {
			t.Errorf("error %d came only %d times", e, counts[e])
		}
	}
	if macs < 10000 {
		t.Errorf("only %d had a link address", macs)
	}
}

// 8.10
func TestNDComesBack(t *testing.T) {
	r := rand.New(rand.NewSource(6))
	for range 20000 {
		n := api.ND{Kind: 1 + r.Intn(2), Target: api.IP{V: 6}, HasMac: r.Intn(2) == 0}
		r.Read(n.Target.A[:])
		n.Target.A[0] &= 0x7f
		if n.HasMac {
			r.Read(n.Mac[:])
		}
		if n.Kind == 2 {
			n.Router, n.Solicited, n.Override = r.Intn(2) == 0, r.Intn(2) == 0, r.Intn(2) == 0
		}
		x, e := icmp.PutND(n)
		if e != api.OK || icmp.Check(x) != api.OK {
			t.Fatalf("PutND(%v) = %v, %d", n, x, e)
		}
		b, e := icmp.Serialise(l, m, x)
		y, f := icmp.Parse(6, l, m, b)
		if e != api.OK || f != api.OK || !same(x, y) {
			t.Fatalf("%v is read as %v, %d, %d", x, y, e, f)
		}
		if g, e := icmp.ParseND(y); e != api.OK || g != n {
			t.Fatalf("ParseND(PutND(%v)) = %v, %d", n, g, e)
		}
	}
}

// 8.11
func TestNDIsNew(t *testing.T) {
	n := api.ND{Kind: 2, Target: l, Router: true, HasMac: true, Mac: mac}
	want := about("02 01" + own)
	for range 3 {
		x, e := icmp.PutND(n)
		if e != api.OK || !bytes.Equal(x.Data, want) {
			t.Fatalf("%v, %d", x, e)
		}
		scribble(x.Data)
	}
	if n != (api.ND{Kind: 2, Target: l, Router: true, HasMac: true, Mac: mac}) {
		t.Error("it was changed")
	}
}
