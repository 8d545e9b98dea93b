package hole_test

import (
	"bytes"
	"math"
	"math/rand"
	"slices"
	"testing"

	"weir/api"
	"weir/hole"
)

// wantLike holds an answer of Put and all that is told behind it against the model, and 11.10 besides.
func wantLike(t *testing.T, h *hole.Holes, m *model, c cover) {
	t.Helper()
	in := []byte(c.data)
	f, e := h.Put(c.off, in, c.more)
	clear(in) // 11.11: not kept
	if wf, we := m.put(c); f != wf || e != we {
		t.Fatalf("behind %v: Put(%d, %q, %v) = %+v, %d, want %+v, %d", m.taken, c.off, c.data, c.more, f, e, wf, we)
	}
	if got, want := told(h), m.told(); got != want {
		t.Fatalf("max %d, taken %v: told is %s, want %s", m.max, m.taken, got, want)
	}
	wantParted(t, h, m.max)
}

// 11.10
func wantParted(t *testing.T, h *hole.Holes, max int) {
	t.Helper()
	limit := max
	if total, known := h.Total(); known {
		limit = total
	}
	open, behind := 0, -1
	for _, g := range h.Gaps() {
		if g[0] >= g[1] || g[0] <= behind || g[1] > limit {
			t.Fatalf("Gaps() = %v, the places end at %d", h.Gaps(), limit)
		}
		open += g[1] - g[0]
		behind = g[1]
	}
	if open+h.Held() != limit {
		t.Fatalf("Gaps() = %v, Held() = %d, the places end at %d", h.Gaps(), h.Held(), limit)
	}
}

// wantEvery puts each of the pieces behind those that a model has taken, in each of the letters, and goes on behind each that is taken.
func wantEvery(t *testing.T, m model, pieces []cover, letters ...string) {
	for _, letter := range letters[0] {
		for _, c := range pieces {
			h, next := holes(t, m.max), model{m.max, slices.Clone(m.taken)}
			for _, c := range m.taken {
				h.Put(c.off, []byte(c.data), c.more)
			}
			wantLike(t, h, &next, cover{c.off, run(string(letter), len(c.data)), c.more})
			if len(next.taken) > len(m.taken) && len(letters) > 1 {
				wantEvery(t, next, pieces, letters[1:]...)
			}
		}
	}
}

// 11.2 to 11.8, 11.10: every sequence of three pieces, right and wrong ones, over few places.
func TestEverySequence(t *testing.T) {
	var pieces []cover
	for _, off := range []int{-8, 0, 4, 8, 16, 24} {
		for _, n := range []int{0, 1, 8, 11, 16, 24} {
			pieces = append(pieces, cover{off, run("x", n), true}, cover{off, run("x", n), false})
		}
	}
	for _, max := range []int{20, 24} {
		wantEvery(t, model{max: max}, pieces, "a", "ab", "ab")
	}
}

// 11.2 to 11.8, 11.10: many pieces at once, few kinds of bytes, so that some are the same.
func TestAgainstTheModel(t *testing.T) {
	r := rand.New(rand.NewSource(11))
	for range 4000 {
		max := 1 + r.Intn(100)
		h, m := holes(t, max), &model{max: max}
		for range 1 + r.Intn(30) {
			off, n := 8*r.Intn(max/8+2), 8*r.Intn(4)
			more := r.Intn(8) > 0
			if !more {
				n += r.Intn(8)
			}
			if r.Intn(30) == 0 {
				off, n = r.Intn(max+20)-10, r.Intn(max+10)
			}
			data := []byte(run("a", n))
			if n > 0 && r.Intn(3) == 0 {
				data[r.Intn(n)] = 'b'
			}
			wantLike(t, h, m, cover{off, string(data), more})
		}
	}
}

// cut parts data at multiples of 8 into pieces of a byte at least.
func cut(r *rand.Rand, data []byte, most int) []cover {
	var l []cover
	for off := 0; off < len(data); {
		n := min(8*(1+r.Intn(most)), len(data)-off)
		l = append(l, cover{off, string(data[off : off+n]), off+n < len(data)})
		off += n
	}
	return l
}

// wantTogether puts pieces of data in some order, some again, and holds the moment at which it is whole.
func wantTogether(t *testing.T, r *rand.Rand, max int, data []byte, pieces []cover) {
	t.Helper()
	h := holes(t, max)
	came := map[int]bool{}
	r.Shuffle(len(pieces), func(i, j int) { pieces[i], pieces[j] = pieces[j], pieces[i] })
	for len(came) < len(pieces) {
		i := len(came)
		if i > 0 && r.Intn(3) == 0 {
			i = r.Intn(i)
		}
		c, fit := pieces[i], api.Fit{New: len(pieces[i].data)}
		if came[i] {
			fit = api.Fit{Old: len(c.data), Same: true}
		}
		came[i] = true
		if f, e := h.Put(c.off, []byte(c.data), c.more); f != fit || e != api.OK {
			t.Fatalf("Put(%d, %d bytes, %v) = %+v, %d, want %+v", c.off, len(c.data), c.more, f, e, fit)
		}
		if whole := h.Whole(); whole != (len(came) == len(pieces)) {
			t.Fatalf("%d of %d pieces have come: Whole() = %v", len(came), len(pieces), whole)
		}
	}
	wantWhole(t, h, string(data))
	wantTotal(t, h, len(data), true)
	wantGaps(t, h)
	wantHeld(t, h, len(data))
}

// 11.9
func TestPiecesMakeTheWhole(t *testing.T) {
	r := rand.New(rand.NewSource(9))
	for k := range 3000 {
		data := make([]byte, 1+r.Intn(300))
		r.Read(data)
		max := len(data) + k%3*r.Intn(100)
		wantTogether(t, r, max, data, cut(r, data, 1+r.Intn(6)))
	}
}

// 11.9: the greatest datagram, in the smallest pieces and in great ones.
func TestTheGreatest(t *testing.T) {
	r := rand.New(rand.NewSource(65535))
	data := make([]byte, 65535)
	r.Read(data)
	for _, most := range []int{1, 185, 8192} {
		wantTogether(t, r, 65535, data, cut(r, data, most))
	}
}

// 11.9: without one of its pieces it is never whole.
func TestOneIsMissing(t *testing.T) {
	r := rand.New(rand.NewSource(99))
	for range 300 {
		data := make([]byte, 1+r.Intn(200))
		r.Read(data)
		pieces := cut(r, data, 4)
		missing := r.Intn(len(pieces))
		h := holes(t, len(data)+r.Intn(2))
		for range 3 {
			for _, i := range r.Perm(len(pieces)) {
				if i == missing {
					continue
				}
				if _, e := h.Put(pieces[i].off, []byte(pieces[i].data), pieces[i].more); e != api.OK {
					t.Fatalf("piece %d of %v is refused: %d", i, pieces, e)
				}
				wantNotWhole(t, h)
			}
		}
	}
}

// 11.8: overlapping pieces of different bytes and a second end: the first arrival wins, byte by byte.
func TestTheFirstArrivalWins(t *testing.T) {
	h := holes(t, 64)
	wantPuts(t, h,
		put{16, run("1", 8), true, api.Fit{New: 8}, api.OK},
		put{8, run("2", 24), true, api.Fit{New: 16, Old: 8}, api.OK},
		put{32, "333", false, api.Fit{New: 3}, api.OK},
		put{32, "4444", false, api.Fit{}, api.ErrEnd},
		put{0, run("5", 35), false, api.Fit{New: 8, Old: 27}, api.OK})
	wantWhole(t, h, "555555552222222211111111222222223"+"33")
	wantPuts(t, h, put{0, run("6", 35), false, api.Fit{Old: 35}, api.OK}, put{0, run("7", 32), true, api.Fit{Old: 32}, api.OK})
	wantWhole(t, h, "55555555222222221111111122222222333")
}

// 11.11: what is handed in stays as it is, with the room behind it, and is not kept.
func TestWhatIsHandedIn(t *testing.T) {
	h := holes(t, 64)
	room := []byte("01234567abcdefgh........")
	for _, l := range [][2]int{{8, 16}, {0, 8}, {0, 16}, {0, 20}, {0, 0}} {
		more := l[1]%8 == 0
		h.Put(l[0], room[l[0]:l[1]], more)
		if string(room) != "01234567abcdefgh........" {
			t.Fatalf("Put of %v changes what is handed in: %q", l, room)
		}
	}
	copy(room, run("#", len(room)))
	wantWhole(t, h, "01234567abcdefgh....")
	wantPuts(t, h, put{0, "01234567abcdefgh", true, api.Fit{Old: 16, Same: true}, api.OK})
}

// 11.11: an answer is new memory, its spare room too: whoever writes there is not seen.
func TestWhatIsHandedOut(t *testing.T) {
	h := holes(t, 100)
	wantPuts(t, h, put{8, run("a", 8), true, api.Fit{New: 8}, api.OK}, put{24, run("a", 8), true, api.Fit{New: 8}, api.OK})
	for range 2 {
		g := h.Gaps()
		g = g[:cap(g)]
		for i := range g {
			g[i] = [2]int{-1, -1}
		}
		wantGaps(t, h, [2]int{0, 8}, [2]int{16, 24}, [2]int{32, 100})
	}
	wantPuts(t, h, put{0, run("b", 36), false, api.Fit{New: 20, Old: 16}, api.OK})
	for range 2 {
		wantWhole(t, h, "bbbbbbbbaaaaaaaabbbbbbbbaaaaaaaabbbb")
		b, _ := h.Bytes()
		if spare := b[len(b):cap(b)]; !bytes.Equal(spare, make([]byte, len(spare))) {
			t.Errorf("in the spare room stands %q", spare)
		}
		b = b[:cap(b)]
		copy(b, run("#", len(b)))
	}
	one, _ := h.Bytes()
	two, _ := h.Bytes()
	one[0] = '#'
	if two[0] != 'b' {
		t.Error("two answers share memory")
	}
	if g := h.Gaps(); g != nil {
		t.Errorf("Gaps() = %v, want none", g)
	}
}

// 11.11: whatever is put, the call ends and answers one of this layer's numbers.
func TestAnythingAtAll(t *testing.T) {
	r := rand.New(rand.NewSource(1111))
	offs := []int{math.MinInt, -65536, -8, -1, 0, 1, 8, 65528, 65529, 65535, 65536, math.MaxInt - 7, math.MaxInt}
	sizes := []int{0, 1, 7, 8, 9, 65527, 65528, 65535, 65536, 70000}
	known := []api.Errno{api.OK, api.ErrLong, api.ErrUnit, api.ErrNothing, api.ErrFar, api.ErrPast, api.ErrEnd}
	for _, max := range []int{1, 8, 65528, 65535} {
		h := holes(t, max)
		for range 400 {
			off, n := offs[r.Intn(len(offs))], sizes[r.Intn(len(sizes))]
			f, e := h.Put(off, make([]byte, n), r.Intn(2) == 0)
			if !slices.Contains(known, e) || e != api.OK && f != (api.Fit{}) || e == api.OK && f.New+f.Old != n {
				t.Fatalf("Put(%d, %d bytes) = %+v, %d", off, n, f, e)
			}
			wantParted(t, h, max)
		}
		if f, e := h.Put(0, nil, false); f != (api.Fit{}) || e != api.ErrNothing {
			t.Errorf("Put(0, nil, false) = %+v, %d", f, e)
		}
	}
}
