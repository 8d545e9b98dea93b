package reasm_test

import (
	"math/rand"
	"testing"

	"weir/api"
	"weir/ip6"
	"weir/reasm"
)

// drawn4 is a fragment, or none, of one of few keys, right or wrong.
func drawn4(r *rand.Rand) api.Ip4 {
	h := at4(r.Intn(3), 8*r.Intn(4), nil, r.Intn(3) > 0)
	n := 8 * (1 + r.Intn(2))
	if !h.MF {
		n = r.Intn(17)
	}
	for range n {
		h.Data = append(h.Data, byte(r.Intn(2)))
	}
	h.TTL, h.DF = 1+r.Intn(250), r.Intn(2) == 0
	if r.Intn(4) == 0 {
		h.Opts = []api.Opt{{Kind: 7, Data: []byte{byte(r.Intn(9))}}}
	}
	switch r.Intn(40) {
	case 0:
		h.TTL = 256
	case 1:
		h.Off++
	case 2:
		h.Proto = 6
	case 3:
		h.Src, h.Dst = h.Dst, h.Src
	}
	return h
}

func drawn6(r *rand.Rand) api.Ip6 {
	h := at6(r.Intn(3), 8*r.Intn(4), nil, r.Intn(3) > 0)
	n := 8 * (1 + r.Intn(2))
	if !h.Frag.More {
		n = r.Intn(17)
	}
	for range n {
		h.Data = append(h.Data, [4]byte{0, 0, 0, 17}[r.Intn(4)])
	}
	h.Next = [4]int{17, 17, 60, 43}[r.Intn(4)]
	h.Hop = 1 + r.Intn(250)
	if r.Intn(4) == 0 {
		h.Exts = []api.Ext{{Kind: 0, Opts: pad6}}
	}
	switch r.Intn(40) {
	case 0:
		h.Hop = 256
	case 1:
		h.Frag.Off++
	case 2:
		h.Frag.Off = 65480 + 8*r.Intn(3)
	case 3:
		h.Src, h.Dst = h.Dst, h.Src
	case 4:
		h.Frag = api.Frag{}
	case 5:
		h.Frag.ID = 1<<32 - r.Intn(2)
	}
	return h
}

// game is a table, its second reading, and what was offered to both.
type game struct {
	x  *reasm.Table
	m  *model
	l4 []api.Ip4
	l6 []api.Ip6
}

// next4 is a fragment to be offered, at times one that was offered before; so is next6.
func (g *game) next4(r *rand.Rand) api.Ip4 {
	if len(g.l4) > 0 && r.Intn(5) == 0 {
		return g.l4[r.Intn(len(g.l4))]
	}
	g.l4 = append(g.l4, drawn4(r))
	return g.l4[len(g.l4)-1]
}

func (g *game) next6(r *rand.Rand) api.Ip6 {
	if len(g.l6) > 0 && r.Intn(5) == 0 {
		return g.l6[r.Intn(len(g.l6))]
	}
	g.l6 = append(g.l6, drawn6(r))
	return g.l6[len(g.l6)-1]
}

// step does one thing to a table and to its second reading, and holds what both tell against each other.
func (g *game) step(t *testing.T, r *rand.Rand) {
	t.Helper()
	got, want, what := "", "", "Tick()"
	switch k := r.Intn(20); {
	case k == 0:
		got, want = text(g.x.Tick()), text(g.m.tick())
	case k < 10:
		h := g.next4(r)
		y, o, e := g.x.Offer4(h)
		z, p, f := g.m.offer4(h)
		got, want, what = text([]any{y, o, e}), text([]any{z, p, f}), "Offer4("+text(h)+")"
	default:
		h := g.next6(r)
		y, id, o, e := g.x.Offer6(h)
		z, jd, p, f := g.m.offer6(h)
		got, want, what = text([]any{y, id, o, e}), text([]any{z, jd, p, f}), "Offer6("+text(h)+")"
	}
	if got != want {
		t.Fatalf("%s\n = %s\nwant %s", what, got, want)
	}
	if n := [3]int{g.x.Live(), g.x.Held(), g.x.Finished()}; n != g.m.counted() {
		t.Fatalf("behind %s: %v, want %v", what, n, g.m.counted())
	}
}

// 12.2 to 12.7, 12.10: long sequences of right and wrong fragments against the second reading.
func TestDrawn(t *testing.T) {
	r := rand.New(rand.NewSource(12))
	for range 1500 {
		max, ticks := 1+r.Intn(9), 1+r.Intn(5)
		g := &game{x: table(t, max, ticks), m: &model{max: max, ticks: ticks}}
		for range 60 {
			g.step(t, r)
		}
	}
}

// 12.11: Live is never above max; Held is what was held less what Late told and what a whole datagram used up; with no
// fragment for as many Ticks nothing is left.
func TestBounded(t *testing.T) {
	r := rand.New(rand.NewSource(13))
	for range 300 {
		max, ticks := 1+r.Intn(4), 1+r.Intn(4)
		x := table(t, max, ticks)
		held, now := 0, 0
		of := map[string]int{} // how many of each key
		began := map[string]int{}
		for range 80 {
			switch h := drawn4(r); {
			case r.Intn(15) == 0:
				now++
				for _, l := range x.Tick() {
					held -= l.Frags
				}
				for k, at := range began {
					if at+ticks <= now {
						delete(of, k)
						delete(began, k)
					}
				}
			default:
				k := text([]any{h.Src, h.Dst, h.Proto, h.ID})
				_, o, _ := x.Offer4(h)
				if o == api.OHeld {
					held++
					of[k]++
					if of[k] == 1 {
						began[k] = now
					}
				}
				if o == api.OWhole && (h.MF || h.Off > 0) {
					held -= of[k]
					delete(of, k)
				}
			}
			if x.Live() > max || x.Held() != held || x.Finished() > x.Live() {
				t.Fatalf("Live %d of %d, Finished %d, Held %d, want %d", x.Live(), max, x.Finished(), x.Held(), held)
			}
		}
		for range ticks {
			x.Tick()
		}
		counts(t, x, 0, 0, 0)
	}
}

// cuts are places, multiples of eight, that part n bytes into pieces of at most so many times eight.
func cuts(r *rand.Rand, n, units int) []int {
	l := []int{0}
	for l[len(l)-1] < n {
		l = append(l, min(n, l[len(l)-1]+8*(1+r.Intn(units))))
	}
	return l
}

// cut4 are the fragments of a datagram, the options that are not copied in the first alone.
func cut4(h api.Ip4, at []int) []api.Ip4 {
	var l []api.Ip4
	for i := range len(at) - 1 {
		p := h
		p.Off, p.MF, p.Data = at[i], i < len(at)-2, h.Data[at[i]:at[i+1]]
		if i > 0 {
			p.Opts = nil
		}
		l = append(l, p)
	}
	return l
}

// cut6 are the fragments of a datagram whose first keep extension headers stand ahead of the Fragment header.
func cut6(t *testing.T, h api.Ip6, id, keep int, r *rand.Rand) []api.Ip6 {
	t.Helper()
	b, e := ip6.PutChain(h.Exts[keep:], h.Next)
	if e != api.OK {
		t.Fatal(e)
	}
	next := h.Next
	if keep < len(h.Exts) {
		next = h.Exts[keep].Kind
	}
	b = append(b, h.Data...)
	at := cuts(r, len(b), 4)
	var l []api.Ip6
	for i := range len(at) - 1 {
		p := h
		p.Exts, p.Next, p.Data = h.Exts[:keep], next, b[at[i]:at[i+1]]
		p.Frag = api.Frag{Has: true, More: i < len(at)-2, ID: id, Off: at[i]}
		l = append(l, p)
	}
	return l
}

// source is a datagram of either version and the pieces of it that have come.
type source struct {
	v     int
	want  string
	p4    []api.Ip4
	p6    []api.Ip6
	came  map[int]bool
	whole bool
}

func (s *source) size() int { return len(s.p4) + len(s.p6) }

func newSource(t *testing.T, r *rand.Rand, id int) *source {
	data := make([]byte, 9+r.Intn(300))
	r.Read(data)
	if r.Intn(2) == 0 {
		h := at4(id, 0, data, false)
		h.DF, h.Tos, h.TTL = r.Intn(2) == 0, r.Intn(256), r.Intn(256)
		h.Opts = []api.Opt{{Kind: 7, Data: []byte{byte(r.Intn(256))}}}[:r.Intn(2)]
		return &source{v: 4, want: text(h), p4: cut4(h, cuts(r, len(data), 4)), came: map[int]bool{}}
	}
	h := joined6(at6(id, 0, nil, false), data)
	h.Class, h.Flow = r.Intn(256), r.Intn(1<<20)
	h.Exts = []api.Ext{{Kind: 0, Opts: pad6}, {Kind: 43, Data: []byte("router")}, {Kind: 60, Opts: pad6}}[:r.Intn(4)]
	keep := 0
	if len(h.Exts) > 0 {
		keep = 1 + r.Intn(len(h.Exts)) // hop-by-hop stays ahead
	}
	return &source{v: 6, want: text(h), p6: cut6(t, h, id, keep, r), came: map[int]bool{}}
}

// offer hands a piece on, and tells what came of it.
func (s *source) offer(x *reasm.Table, k int) (string, int) {
	if s.v == 4 {
		y, o, _ := x.Offer4(s.p4[k])
		return text(y), o
	}
	y, _, o, _ := x.Offer6(s.p6[k])
	return text(y), o
}

// 12.9: the pieces of several datagrams mingled, some again: each is whole once, with the last of them that was missing.
func TestExactlyOnce(t *testing.T) {
	r := rand.New(rand.NewSource(14))
	for range 300 {
		n := 1 + r.Intn(5)
		x := table(t, n, 1)
		var l []*source
		for id := range n {
			if s := newSource(t, r, id); s.size() > 1 {
				l = append(l, s)
			}
		}
		for left := len(l); len(l) > 0 && (left > 0 || r.Intn(20) > 0); {
			s := l[r.Intn(len(l))]
			k := r.Intn(s.size())
			y, o := s.offer(x, k)
			s.came[k] = true
			now := !s.whole && len(s.came) == s.size()
			if now != (o == api.OWhole) || now && y != s.want {
				t.Fatalf("piece %d of %d, %d of them have come: %d, %.200s, want %.200s", k, s.size(), len(s.came), o, y, s.want)
			}
			if now {
				s.whole = true
				left--
			}
		}
	}
}

// 12.9: as many pieces as may be, in any order, each twice.
func TestMostPieces(t *testing.T) {
	r := rand.New(rand.NewSource(15))
	h := at4(1, 0, bytesFrom(0, 8*1024-3), false)
	var at []int
	for i := range 1024 {
		at = append(at, 8*i)
	}
	pieces := cut4(h, append(at, len(h.Data)))
	x := table(t, 1, 1)
	for i, k := range r.Perm(1024) {
		if i == 1023 {
			whole4(t, x, pieces[k], h)
			no4(t, x, pieces[k], api.ErrFinished)
			break
		}
		held4(t, x, pieces[k])
		no4(t, x, pieces[k], api.ErrDuplicate)
	}
}

// 12.10: of overlapping fragments that contradict each other each byte is that of the first that was held, since the context
// began; the length is that of the first last one.
func TestFirstWins(t *testing.T) {
	r := rand.New(rand.NewSource(16))
	delivered := 0
	for range 2000 {
		x := table(t, 1, 1)
		first, end := map[int]byte{}, -1
		for range 30 {
			h := at4(1, 8*r.Intn(5), nil, r.Intn(4) > 0)
			h.Data = make([]byte, 8*(1+r.Intn(3))-r.Intn(2)*r.Intn(8))
			r.Read(h.Data)
			if !h.MF && h.Off == 0 {
				continue
			}
			y, o, _ := x.Offer4(h)
			if o == 0 {
				continue
			}
			for i, b := range h.Data {
				if _, there := first[h.Off+i]; !there {
					first[h.Off+i] = b
				}
			}
			if !h.MF && end < 0 {
				end = h.Off + len(h.Data)
			}
			if o != api.OWhole {
				continue
			}
			delivered++
			want := make([]byte, end)
			for i := range want {
				want[i] = first[i]
			}
			if string(y.Data) != string(want) {
				t.Fatalf("whole is %v, want %v", y.Data, want)
			}
			break
		}
	}
	if delivered < 500 {
		t.Errorf("only %d of 2000 were delivered", delivered)
	}
}

// 12.8: whatever it is given.
func TestAnything(t *testing.T) {
	r := rand.New(rand.NewSource(17))
	odd := []int{-1 << 63, -1, 0, 1, 8, 255, 256, 65528, 65535, 65536, 1 << 32, 1<<63 - 1}
	any := func() int { return odd[r.Intn(len(odd))] }
	for range 3000 {
		x := table(t, 2, 2)
		for range 5 {
			data := make([]byte, []int{0, 7, 8, 65495, 65515, 65536}[r.Intn(6)])
			h := api.Ip4{Tos: any(), ID: any(), MF: r.Intn(2) == 0, Off: any(), TTL: any(), Proto: any(), Src: four(1), Dst: four(2), Data: data}
			g := api.Ip6{Class: any(), Flow: any(), Hop: any(), Src: six(1), Dst: six(2), Next: any(), Data: data,
				Frag: api.Frag{Has: r.Intn(2) == 0, More: r.Intn(2) == 0, ID: any(), Off: any()}}
			if r.Intn(2) == 0 {
				h.Tos, h.ID, h.TTL, h.Proto, g.Class, g.Flow, g.Hop = 0, 1, 1, 1, 0, 0, 1
			}
			if r.Intn(4) == 0 {
				h.Src.V, g.Dst.V = any(), any()
			}
			x.Offer4(h)
			x.Offer6(g)
			if r.Intn(3) == 0 {
				x.Tick()
			}
		}
	}
}
