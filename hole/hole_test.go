package hole_test

import (
	"math"
	"testing"

	"weir/api"
	"weir/hole"
)

// 11.1
func TestNew(t *testing.T) {
	for _, max := range []int{0, -1, -8, 65536, math.MinInt, math.MaxInt} {
		if h, e := hole.New(max); h != nil || e != api.ErrArg {
			t.Errorf("New(%d) = %v, %d, want nil, ErrArg", max, h, e)
		}
	}
	for _, max := range []int{1, 7, 8, 9, 65534, 65535} {
		h := holes(t, max)
		wantGaps(t, h, [2]int{0, max})
		wantTotal(t, h, 0, false)
		wantHeld(t, h, 0)
		wantNotWhole(t, h)
	}
}

// 11.1
func TestTwoHaveNothingInCommon(t *testing.T) {
	a, b := holes(t, 32), holes(t, 32)
	wantPuts(t, a, put{8, "aaaaaaaa", true, api.Fit{New: 8}, api.OK}, put{16, "aa", false, api.Fit{New: 2}, api.OK})
	wantGaps(t, b, [2]int{0, 32})
	wantTotal(t, b, 0, false)
	wantHeld(t, b, 0)
	wantPuts(t, b, put{0, "bbbbbbbb", true, api.Fit{New: 8}, api.OK}, put{8, "aaaaaaaa", true, api.Fit{New: 8}, api.OK})
	wantPuts(t, b, put{16, "bbbbbbbb", false, api.Fit{New: 8}, api.OK})
	wantWhole(t, b, "bbbbbbbbaaaaaaaabbbbbbbb")
	wantGaps(t, a, [2]int{0, 8})
	wantTotal(t, a, 18, true)
	wantNotWhole(t, a)
}

// The first table of the chapter's examples.
func TestExamples(t *testing.T) {
	h := holes(t, 64)
	wantGaps(t, h, [2]int{0, 64})
	wantPuts(t, h, put{8, "89abcdef", true, api.Fit{New: 8}, api.OK})
	wantGaps(t, h, [2]int{0, 8}, [2]int{16, 64})
	wantPuts(t, h,
		put{8, "XXXXXXXX", true, api.Fit{Old: 8}, api.OK},
		put{8, "89abcdef", true, api.Fit{Old: 8, Same: true}, api.OK},
		put{8, "89abcdef", false, api.Fit{Old: 8}, api.OK},
		put{16, "y", false, api.Fit{}, api.ErrEnd},
		put{16, "yyyyyyyy", true, api.Fit{}, api.ErrPast},
		put{4, "yyyy", true, api.Fit{}, api.ErrUnit},
		put{0, "yyy", true, api.Fit{}, api.ErrUnit},
		put{0, "", true, api.Fit{}, api.ErrNothing},
		put{64, "y", false, api.Fit{}, api.ErrFar})
	wantGaps(t, h, [2]int{0, 8})
	wantTotal(t, h, 16, true)
	wantNotWhole(t, h)
	wantPuts(t, h, put{0, "0123456789abcdef", true, api.Fit{New: 8, Old: 8}, api.OK})
	wantWhole(t, h, "0123456789abcdef")
}

// The second one of the chapter's examples.
func TestExamplesOfEnds(t *testing.T) {
	h := holes(t, 64)
	wantPuts(t, h,
		put{16, "yyyyyyyy", true, api.Fit{New: 8}, api.OK},
		put{8, "abc", false, api.Fit{}, api.ErrEnd},
		put{16, "z", false, api.Fit{}, api.ErrEnd},
		put{24, "z", false, api.Fit{New: 1}, api.OK})
	wantTotal(t, h, 25, true)
}

// 11.3: a piece fills holes whole, cuts them at one side, parts one in two, or leaves them as they are.
func TestGaps(t *testing.T) {
	h := holes(t, 100)
	for _, step := range []struct {
		off, size int
		fit       api.Fit
		gaps      [][2]int
	}{
		{16, 8, api.Fit{New: 8}, [][2]int{{0, 16}, {24, 100}}},
		{48, 8, api.Fit{New: 8}, [][2]int{{0, 16}, {24, 48}, {56, 100}}},
		{32, 8, api.Fit{New: 8}, [][2]int{{0, 16}, {24, 32}, {40, 48}, {56, 100}}},
		{0, 8, api.Fit{New: 8}, [][2]int{{8, 16}, {24, 32}, {40, 48}, {56, 100}}},
		{32, 8, api.Fit{Old: 8, Same: true}, [][2]int{{8, 16}, {24, 32}, {40, 48}, {56, 100}}},
		{80, 8, api.Fit{New: 8}, [][2]int{{8, 16}, {24, 32}, {40, 48}, {56, 80}, {88, 100}}},
		{24, 40, api.Fit{New: 24, Old: 16}, [][2]int{{8, 16}, {64, 80}, {88, 100}}},
		{72, 8, api.Fit{New: 8}, [][2]int{{8, 16}, {64, 72}, {88, 100}}},
		{8, 88, api.Fit{New: 24, Old: 64}, [][2]int{{96, 100}}},
	} {
		wantPuts(t, h, put{step.off, run("x", step.size), true, step.fit, api.OK})
		wantGaps(t, h, step.gaps...)
	}
	wantHeld(t, h, 96)
	wantPuts(t, h, put{96, "zz", false, api.Fit{New: 2}, api.OK})
	wantGaps(t, h)
	wantHeld(t, h, 98)
	wantWhole(t, h, run("x", 96)+"zz")
}

// 11.3, 11.4: the last hole ends at max, then at the known end, and is none where a piece reaches up to there.
func TestTheLastHole(t *testing.T) {
	h := holes(t, 30)
	wantPuts(t, h, put{8, "aaaaaaaa", true, api.Fit{New: 8}, api.OK})
	wantGaps(t, h, [2]int{0, 8}, [2]int{16, 30})
	wantPuts(t, h, put{24, "z", false, api.Fit{New: 1}, api.OK})
	wantGaps(t, h, [2]int{0, 8}, [2]int{16, 24})
	wantTotal(t, h, 25, true)

	h = holes(t, 30)
	wantPuts(t, h, put{24, "zzzzzz", false, api.Fit{New: 6}, api.OK})
	wantGaps(t, h, [2]int{0, 24})
	wantTotal(t, h, 30, true)
}

// 11.3, 11.5: all places below max may be held while the end is not known.
func TestFullWithoutAnEnd(t *testing.T) {
	h := holes(t, 16)
	wantPuts(t, h, put{0, run("a", 16), true, api.Fit{New: 16}, api.OK})
	wantGaps(t, h)
	wantTotal(t, h, 0, false)
	wantHeld(t, h, 16)
	wantNotWhole(t, h)
	wantPuts(t, h, put{8, "zzzz", false, api.Fit{}, api.ErrEnd}, put{8, "zzzzzzzz", false, api.Fit{Old: 8}, api.OK})
	wantGaps(t, h)
	wantTotal(t, h, 16, true)
	wantWhole(t, h, run("a", 16))
}

// 11.4: an end that was told becomes known with bytes that are all old, and holes ahead of it stay.
func TestAnEndThatBringsNothing(t *testing.T) {
	h := holes(t, 64)
	wantPuts(t, h, put{16, run("a", 16), true, api.Fit{New: 16}, api.OK}, put{24, run("b", 8), false, api.Fit{Old: 8}, api.OK})
	wantTotal(t, h, 32, true)
	wantGaps(t, h, [2]int{0, 16})
	wantPuts(t, h, put{0, run("c", 32), true, api.Fit{New: 16, Old: 16}, api.OK})
	wantWhole(t, h, run("c", 16)+run("a", 16))
}

// 11.5, 11.6: a last piece at 0 is the whole, of one byte up to max.
func TestOnePiece(t *testing.T) {
	for _, n := range []int{1, 7, 8, 9, 4000, 65534, 65535} {
		h := holes(t, 65535)
		wantPuts(t, h, put{0, run("w", n), false, api.Fit{New: n}, api.OK})
		wantTotal(t, h, n, true)
		wantGaps(t, h)
		wantHeld(t, h, n)
		wantWhole(t, h, run("w", n))
		h = holes(t, n)
		wantPuts(t, h, put{0, run("w", n), false, api.Fit{New: n}, api.OK})
		wantWhole(t, h, run("w", n))
		wantPuts(t, h, put{0, run("v", n), false, api.Fit{Old: n}, api.OK})
		wantWhole(t, h, run("w", n))
	}
}

// 11.7: a byte that comes twice counts once; a refused one never.
func TestHeld(t *testing.T) {
	h := holes(t, 64)
	wantPuts(t, h, put{16, run("a", 16), true, api.Fit{New: 16}, api.OK})
	wantHeld(t, h, 16)
	wantPuts(t, h, put{24, run("b", 16), true, api.Fit{New: 8, Old: 8}, api.OK})
	wantHeld(t, h, 24)
	wantPuts(t, h, put{56, run("c", 9), false, api.Fit{}, api.ErrFar})
	wantHeld(t, h, 24)
	wantPuts(t, h, put{48, "d", false, api.Fit{New: 1}, api.OK})
	wantHeld(t, h, 25)
}
