package l4_test

import (
	"bytes"
	"math"
	"math/rand"
	"slices"
	"testing"

	"weir/api"
	"weir/l4"
)

// 9.9
func TestMss(t *testing.T) {
	rows := []struct {
		l    []api.Opt
		want int
		ok   bool
	}{
		{nil, 0, false}, {[]api.Opt{opt(2, 5, 0xb4)}, 1460, true}, {[]api.Opt{opt(2, 0, 0)}, 0, true}, {[]api.Opt{opt(2, 255, 255)}, 65535, true},
		{[]api.Opt{opt(3, 5, 0xb4)}, 0, false}, {[]api.Opt{opt(2)}, 0, false}, {[]api.Opt{opt(2, 5)}, 0, false}, {[]api.Opt{opt(2, 5, 0xb4, 0)}, 0, false}, {[]api.Opt{opt(258, 5, 0xb4)}, 0, false}, {[]api.Opt{opt(-2, 5, 0xb4)}, 0, false},
		{[]api.Opt{opt(4), opt(2, 1), opt(2, 1, 2), opt(2, 3, 4)}, 258, true}, {[]api.Opt{opt(2, 0, 0), opt(2, 3, 4)}, 0, true},
	}
	for i, r := range rows {
		for _, flags := range []int{0, 2, 16, 255, -1} {
			if n, ok := l4.Mss(api.Tcp{Flags: flags, Sport: -1, Opts: r.l}); n != r.want || ok != r.ok {
				t.Errorf("%d: Mss = %d, %t", i, n, ok)
			}
		}
	}
	for n := range 65536 {
		if m, ok := l4.Mss(api.Tcp{Opts: []api.Opt{opt(2, byte(n/256), byte(n%256))}}); m != n || !ok {
			t.Fatalf("%d: Mss = %d, %t", n, m, ok)
		}
	}
}

// 9.9
func TestClamp(t *testing.T) {
	rows := []struct {
		flags, most int
		l, want     []api.Opt
	}{
		{2, 1400, []api.Opt{opt(2, 5, 0xb4)}, []api.Opt{opt(2, 5, 0x78)}}, {2, 1459, []api.Opt{opt(2, 5, 0xb4)}, []api.Opt{opt(2, 5, 0xb3)}}, {2, 1460, []api.Opt{opt(2, 5, 0xb4)}, []api.Opt{opt(2, 5, 0xb4)}}, {2, 1461, []api.Opt{opt(2, 5, 0xb4)}, []api.Opt{opt(2, 5, 0xb4)}},
		{2, 0, []api.Opt{opt(2, 5, 0xb4)}, []api.Opt{opt(2, 0, 0)}}, {2, -1, []api.Opt{opt(2, 5, 0xb4)}, []api.Opt{opt(2, 0, 0)}}, {2, math.MinInt, []api.Opt{opt(2, 0, 1)}, []api.Opt{opt(2, 0, 0)}}, {2, math.MaxInt, []api.Opt{opt(2, 255, 255)}, []api.Opt{opt(2, 255, 255)}}, {2, 65536, []api.Opt{opt(2, 255, 255)}, []api.Opt{opt(2, 255, 255)}}, {2, 65534, []api.Opt{opt(2, 255, 255)}, []api.Opt{opt(2, 255, 254)}},
		{18, 1, []api.Opt{opt(2, 5, 0xb4)}, []api.Opt{opt(2, 0, 1)}}, {255, 1, []api.Opt{opt(2, 5, 0xb4)}, []api.Opt{opt(2, 0, 1)}}, {16, 1, []api.Opt{opt(2, 5, 0xb4)}, []api.Opt{opt(2, 5, 0xb4)}}, {0, -1, []api.Opt{opt(2, 5, 0xb4)}, []api.Opt{opt(2, 5, 0xb4)}}, {253, 1, []api.Opt{opt(2, 5, 0xb4)}, []api.Opt{opt(2, 5, 0xb4)}}, {258, 1, []api.Opt{opt(2, 5, 0xb4)}, []api.Opt{opt(2, 0, 1)}},
		{2, 9, nil, nil}, {2, 9, []api.Opt{opt(2, 1), opt(2, 5, 0xb4), opt(2, 1, 0), opt(2, 0, 9), opt(2, 0, 8), opt(2, 1, 2, 3), opt(3, 1, 2), opt(-5), opt(258, 1, 2)}, []api.Opt{opt(2, 1), opt(2, 0, 9), opt(2, 0, 9), opt(2, 0, 9), opt(2, 0, 8), opt(2, 1, 2, 3), opt(3, 1, 2), opt(-5), opt(258, 1, 2)}},
	}
	for i, r := range rows {
		s := api.Tcp{Sport: -1, Dport: 70000, Seq: -3, Ack: 1 << 40, Flags: r.flags, Win: -5, Urg: 99999, Opts: r.l, Data: []byte("data")}
		want := s
		want.Opts = r.want
		kept := slices.Clone(r.l)
		for j, o := range kept {
			kept[j].Data = bytes.Clone(o.Data)
		}
		if x := l4.Clamp(s, r.most); !sameTcp(x, want) {
			t.Errorf("%d: Clamp = %v, want %v", i, x, want)
		}
		if !sameOpts(r.l, kept) {
			t.Errorf("%d: the options handed in are %v", i, r.l)
		}
	}
}

// 9.9: each number against numbers near to it.
func TestClampOfEach(t *testing.T) {
	for n := range 65536 {
		for _, most := range []int{n - 1, n, n + 1, n / 2, 1460} {
			want := max(0, min(n, most))
			x := l4.Clamp(api.Tcp{Flags: 2, Opts: []api.Opt{opt(2, byte(n/256), byte(n%256))}}, most)
			if m, ok := l4.Mss(x); m != want || !ok || len(x.Opts) != 1 {
				t.Fatalf("%d to %d: %v", n, most, x)
			}
		}
	}
}

// 9.9: what may be a segment stays one, with all but what it tells as it was.
func TestClampOfSome(t *testing.T) {
	r := rand.New(rand.NewSource(1))
	lowered := 0
	for range 50000 {
		s, most := someTcp(r), r.Intn(70000)-2000
		x := l4.Clamp(s, most)
		want := s
		want.Opts = nil
		for _, o := range s.Opts {
			if o.Kind == 2 && s.Flags/2%2 == 1 && int(o.Data[0])*256+int(o.Data[1]) > most {
				lowered++
				o = opt(2, byte(max(most, 0)/256), byte(max(most, 0)%256))
			}
			want.Opts = append(want.Opts, o)
		}
		if !sameTcp(x, want) || l4.CheckTcp(x) != api.OK {
			t.Fatalf("Clamp(%v, %d) = %v", s, most, x)
		}
	}
	if lowered < 1000 {
		t.Errorf("lowered were only %d", lowered)
	}
}

// 9.9, 9.10: the options of the answer are new memory, Data is the segment's own.
func TestClampIsNewMemory(t *testing.T) {
	for _, flags := range []int{2, 16} {
		for _, most := range []int{1, 65535} {
			inner, whole := roomy([]byte{5, 0xb4})
			data := []byte("datamore")[:4]
			l := []api.Opt{{Kind: 2, Data: inner}, opt(3, 7), opt(4), opt(9, 9)}
			x := l4.Clamp(api.Tcp{Flags: flags, Opts: l[:3], Data: data}, most)
			kept := slices.Clone(whole)
			if len(x.Opts) != 3 || len(x.Data) != 4 || &x.Data[0] != &data[0] {
				t.Fatalf("%v", x)
			}
			for i := range x.Opts {
				scribble(x.Opts[i].Data)
				x.Opts[i].Kind = 77
			}
			_ = append(x.Opts, opt(1))
			if !bytes.Equal(whole, kept) || !sameOpts(l[1:], []api.Opt{opt(3, 7), opt(4), opt(9, 9)}) || l[0].Kind != 2 {
				t.Errorf("flags %d, most %d: the segment handed in is %v, %x", flags, most, l, whole)
			}
		}
	}
}
