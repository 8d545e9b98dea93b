package hole_test

import (
	"bytes"
	"fmt"
	"slices"
	"testing"

	"weir/api"
	"weir/hole"
)

func holes(t *testing.T, max int) *hole.Holes {
	t.Helper()
	h, e := hole.New(max)
	if h == nil || e != api.OK {
		t.Fatalf("New(%d) = %v, %d", max, h, e)
	}
	return h
}

// put is one call of Put and what it has to answer.
type put struct {
	off  int
	data string
	more bool
	fit  api.Fit
	e    api.Errno
}

func wantPuts(t *testing.T, h *hole.Holes, l ...put) {
	t.Helper()
	for _, p := range l {
		ahead := told(h)
		f, e := h.Put(p.off, []byte(p.data), p.more)
		if f != p.fit || e != p.e {
			t.Errorf("Put(%d, %.20q, %v) = %+v, %d, want %+v, %d", p.off, p.data, p.more, f, e, p.fit, p.e)
		}
		if e != api.OK && told(h) != ahead {
			t.Errorf("Put(%d, %.20q, %v) is refused, and leaves %s, not %s", p.off, p.data, p.more, told(h), ahead)
		}
	}
}

func wantGaps(t *testing.T, h *hole.Holes, want ...[2]int) {
	t.Helper()
	if got := h.Gaps(); !slices.Equal(got, want) {
		t.Errorf("Gaps() = %v, want %v", got, want)
	}
}

func wantTotal(t *testing.T, h *hole.Holes, total int, known bool) {
	t.Helper()
	if n, ok := h.Total(); n != total || ok != known {
		t.Errorf("Total() = %d, %v, want %d, %v", n, ok, total, known)
	}
}

func wantHeld(t *testing.T, h *hole.Holes, want int) {
	t.Helper()
	if got := h.Held(); got != want {
		t.Errorf("Held() = %d, want %d", got, want)
	}
}

func wantWhole(t *testing.T, h *hole.Holes, want string) {
	t.Helper()
	b, ok := h.Bytes()
	if string(b) != want || !ok || !h.Whole() {
		t.Errorf("Bytes() = %.100q, %v, Whole() = %v, want %.100q", b, ok, h.Whole(), want)
	}
}

func wantNotWhole(t *testing.T, h *hole.Holes) {
	t.Helper()
	if b, ok := h.Bytes(); b != nil || ok || h.Whole() {
		t.Errorf("Bytes() = %.100q, %v, Whole() = %v, want nothing", b, ok, h.Whole())
	}
}

// told is all that a Holes tells of itself.
func told(h *hole.Holes) string {
	total, known := h.Total()
	b, ok := h.Bytes()
	return fmt.Sprint(h.Gaps(), total, known, h.Whole(), b, ok, h.Held())
}

// run is n times the same letter.
func run(letter string, n int) string { return string(bytes.Repeat([]byte(letter), n)) }

// cover is a piece as it was taken.
type cover struct {
	off  int
	data string
	more bool
}

func (c cover) end() int { return c.off + len(c.data) }

// model keeps nothing but the pieces that were taken, in their order, and works every answer out of these.
type model struct {
	max   int
	taken []cover
}

// at is the byte of the first piece that covers a place.
func (m *model) at(place int) (byte, bool) {
	for _, c := range m.taken {
		if c.off <= place && place < c.end() {
			return c.data[place-c.off], true
		}
	}
	return 0, false
}

func (m *model) total() (int, bool) {
	for _, c := range m.taken {
		if !c.more {
			return c.end(), true
		}
	}
	return 0, false
}

// heldFrom tells whether a byte is held at a place or behind it.
func (m *model) heldFrom(place int) bool {
	for ; place < m.max; place++ {
		if _, ok := m.at(place); ok {
			return true
		}
	}
	return false
}

func (m *model) refuse(c cover) api.Errno {
	n := len(c.data)
	total, known := m.total()
	switch {
	case n > 65535:
		return api.ErrLong
	case c.off < 0, c.off&7 > 0, c.more && n&7 > 0:
		return api.ErrUnit
	case n == 0:
		return api.ErrNothing
	case c.off > m.max, c.end() > m.max:
		return api.ErrFar
	case c.more && known && c.end() > total:
		return api.ErrPast
	case c.more:
		return api.OK
	case known && c.end() != total, !known && m.heldFrom(c.end()):
		return api.ErrEnd
	}
	return api.OK
}

func (m *model) put(c cover) (api.Fit, api.Errno) {
	if e := m.refuse(c); e != api.OK {
		return api.Fit{}, e
	}
	var f api.Fit
	f.Same = slices.ContainsFunc(m.taken, func(o cover) bool {
		return o.off == c.off && len(o.data) == len(c.data) && o.more == c.more
	})
	for i := range len(c.data) {
		b, held := m.at(c.off + i)
		if held {
			f.Old++
		} else {
			f.New++
		}
		f.Same = f.Same && held && b == c.data[i]
	}
	m.taken = append(m.taken, c)
	return f, api.OK
}

func (m *model) told() string {
	total, known := m.total()
	limit := m.max
	if known {
		limit = total
	}
	var gaps [][2]int
	var all []byte
	held, open := 0, false
	for place := range limit {
		b, ok := m.at(place)
		switch {
		case ok:
			held++
		case open:
			gaps[len(gaps)-1][1]++
		default:
			gaps = append(gaps, [2]int{place, place + 1})
		}
		open = !ok
		all = append(all, b)
	}
	whole := known && held == total
	if !whole {
		all = nil
	}
	return fmt.Sprint(gaps, total, known, whole, all, whole, held)
}
