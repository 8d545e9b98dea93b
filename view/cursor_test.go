package view_test

import (
	"math"
	"testing"

	"weir/api"
	"weir/view"
)

// 1.5
func TestAtBeginsAtTheFirstByte(t *testing.T) {
	for _, b := range [][]byte{nil, {}, {1}, {1, 2, 3}} {
		c := view.At(b)
		if c == nil {
			t.Fatalf("At(%v) is nil", b)
		}
		if c.Left() != len(b) || c.Place() != 0 {
			t.Errorf("At(%v): %d left, place %d", b, c.Left(), c.Place())
		}
	}
}

// 1.5
func TestACursorKeepsTheBytesThemselves(t *testing.T) {
	b := []byte{1, 2, 3, 4}
	c := view.At(b)
	b[0] = 9
	if v, e := c.Uint(1); v != 9 || e != api.OK {
		t.Errorf("Uint(1) = %d, %d", v, e)
	}
	w, e := c.Window(2)
	if string(w) != "\x02\x03" || cap(w) != 2 || e != api.OK {
		t.Fatalf("Window(2) = %v (room for %d), %d", w, cap(w), e)
	}
	w[1] = 7
	if b[2] != 7 {
		t.Error("the window does not share memory")
	}
	if _ = append(w, 99); b[3] != 4 {
		t.Error("what was appended ran into the bytes")
	}
}

// 1.6
func TestACursorGoesOn(t *testing.T) {
	c := view.At([]byte{1, 2, 3, 4, 5, 6, 7, 8, 9, 10, 11, 12})
	place := func(want int) {
		t.Helper()
		if c.Place() != want || c.Left() != 12-want {
			t.Fatalf("place %d, %d left, want place %d", c.Place(), c.Left(), want)
		}
	}
	if v, e := c.Uint(2); v != 258 || e != api.OK {
		t.Errorf("Uint(2) = %d, %d", v, e)
	}
	place(2)
	if e := c.Skip(1); e != api.OK {
		t.Errorf("Skip(1) = %d", e)
	}
	place(3)
	if w, e := c.Window(0); len(w) != 0 || e != api.OK {
		t.Errorf("Window(0) = %v, %d", w, e)
	}
	if e := c.Skip(0); e != api.OK {
		t.Errorf("Skip(0) = %d", e)
	}
	place(3)
	if v, e := c.Uint(8); v != 0x0405060708090a0b || e != api.OK {
		t.Errorf("Uint(8) = %#x, %d", v, e)
	}
	place(11)
	if w, e := c.Window(1); string(w) != "\x0c" || e != api.OK {
		t.Errorf("Window(1) = %v, %d", w, e)
	}
	place(12)
	if e := c.Skip(0); e != api.OK {
		t.Errorf("Skip(0) at the end = %d", e)
	}
	if w, e := c.Window(0); len(w) != 0 || e != api.OK {
		t.Errorf("Window(0) at the end = %v, %d", w, e)
	}
	place(12)
}

// 1.6: with an error the place stays. 1.12: no n makes a cursor panic.
func TestACursorRefuses(t *testing.T) {
	const left = 3
	c := view.At([]byte{1, 2, 3, 4, 5, 6, 7, 8, 9, 10}[:5])
	c.Skip(2)
	for _, n := range []int{math.MinInt, -1, 4, 5, 8, 9, math.MaxInt - 1, math.MaxInt} {
		lacks := api.ErrOut
		if n < 0 {
			lacks = api.ErrArg
		}
		if w, e := c.Window(n); len(w) != 0 || e != lacks {
			t.Errorf("Window(%d) = %v, %d, want %d", n, w, e, lacks)
		}
		if e := c.Skip(n); e != lacks {
			t.Errorf("Skip(%d) = %d, want %d", n, e, lacks)
		}
		if n > 8 {
			lacks = api.ErrArg
		}
		if v, e := c.Uint(n); v != 0 || e != lacks {
			t.Errorf("Uint(%d) = %d, %d, want %d", n, v, e, lacks)
		}
		if c.Left() != left || c.Place() != 2 {
			t.Fatalf("n = %d: %d left, place %d", n, c.Left(), c.Place())
		}
	}
	if v, e := c.Uint(0); v != 0 || e != api.ErrArg || c.Left() != left {
		t.Errorf("Uint(0) = %d, %d", v, e)
	}
	if v, e := c.Uint(left); v != 0x030405 || e != api.OK {
		t.Errorf("Uint(3) = %#x, %d: a refused call has changed the cursor", v, e)
	}
	if v, e := c.Uint(1); v != 0 || e != api.ErrOut || c.Place() != 5 {
		t.Errorf("Uint(1) at the end = %d, %d", v, e)
	}
}

// 1.12
func TestTwoCursorsHaveNothingInCommon(t *testing.T) {
	b := []byte{1, 2, 3}
	c, d := view.At(b), view.At(b)
	c.Skip(2)
	if d.Place() != 0 || d.Left() != 3 {
		t.Errorf("the second cursor: place %d, %d left", d.Place(), d.Left())
	}
	if v, e := d.Uint(1); v != 1 || e != api.OK || c.Place() != 2 {
		t.Errorf("Uint(1) = %d, %d; the first cursor: place %d", v, e, c.Place())
	}
}
