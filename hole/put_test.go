package hole_test

import (
	"math"
	"testing"

	"weir/api"
)

// 11.2.1: ErrLong, ahead of every other reason.
func TestTooLong(t *testing.T) {
	h := holes(t, 65535)
	long := run("y", 65536)
	wantPuts(t, h,
		put{0, long, true, api.Fit{}, api.ErrLong},
		put{0, long, false, api.Fit{}, api.ErrLong},
		put{-8, long, false, api.Fit{}, api.ErrLong},
		put{3, long + "y", true, api.Fit{}, api.ErrLong},
		put{0, long[1:], true, api.Fit{}, api.ErrUnit},
		put{8, long[1:], false, api.Fit{}, api.ErrFar},
		put{0, long[1:], false, api.Fit{New: 65535}, api.OK})
	wantPuts(t, holes(t, 8), put{0, long, false, api.Fit{}, api.ErrLong}, put{0, long[1:], false, api.Fit{}, api.ErrFar})
}

// 11.2.2: ErrUnit, ahead of a piece without a byte and of one that is far off.
func TestUnits(t *testing.T) {
	h := holes(t, 64)
	for off := -20; off <= 100; off++ {
		if off >= 0 && off%8 == 0 {
			continue
		}
		wantPuts(t, h,
			put{off, "yyyyyyyy", true, api.Fit{}, api.ErrUnit},
			put{off, "y", false, api.Fit{}, api.ErrUnit},
			put{off, "", true, api.Fit{}, api.ErrUnit},
			put{off, "", false, api.Fit{}, api.ErrUnit})
	}
	for n := 1; n < 80; n++ {
		if n%8 != 0 {
			wantPuts(t, h, put{0, run("y", n), true, api.Fit{}, api.ErrUnit}, put{64, run("y", n), true, api.Fit{}, api.ErrUnit})
		}
	}
	for _, off := range []int{math.MinInt, math.MinInt + 8, math.MaxInt, math.MaxInt - 1, math.MaxInt - 6} {
		wantPuts(t, h, put{off, "yyyyyyyy", true, api.Fit{}, api.ErrUnit}, put{off, "y", false, api.Fit{}, api.ErrUnit})
	}
}

// 11.2.3: ErrNothing, ahead of a piece that is far off and of what is known of the end.
func TestNothing(t *testing.T) {
	h := holes(t, 64)
	for range 2 {
		for _, off := range []int{0, 8, 64, 72, math.MaxInt - 7} {
			wantPuts(t, h, put{off, "", true, api.Fit{}, api.ErrNothing}, put{off, "", false, api.Fit{}, api.ErrNothing})
		}
		h.Put(0, []byte("abc"), false)
	}
}

// 11.2.4: ErrFar from one place past max on, ahead of what is known of the end.
func TestFar(t *testing.T) {
	h := holes(t, 60)
	for range 2 {
		wantPuts(t, h,
			put{56, "yyyyy", false, api.Fit{}, api.ErrFar},
			put{56, "yyyyyyyy", true, api.Fit{}, api.ErrFar},
			put{64, "y", false, api.Fit{}, api.ErrFar},
			put{0, run("y", 64), true, api.Fit{}, api.ErrFar},
			put{0, run("y", 61), false, api.Fit{}, api.ErrFar})
		for _, off := range []int{64, 72, 65528, 65536, 1 << 32, 1 << 62, math.MaxInt - 7, math.MaxInt - 15} {
			wantPuts(t, h,
				put{off, "yyyyyyyy", true, api.Fit{}, api.ErrFar},
				put{off, "y", false, api.Fit{}, api.ErrFar},
				put{off, run("y", 65528), true, api.Fit{}, api.ErrFar})
		}
		h.Put(0, []byte("abc"), false)
	}
	h = holes(t, 60)
	wantPuts(t, h, put{48, "yyyyyyyy", true, api.Fit{New: 8}, api.OK}, put{56, "yyyy", false, api.Fit{New: 4}, api.OK})
	wantPuts(t, holes(t, 64), put{56, "yyyyyyyy", true, api.Fit{New: 8}, api.OK})
	wantPuts(t, holes(t, 64), put{64, "y", false, api.Fit{}, api.ErrFar})
	wantPuts(t, holes(t, 1), put{0, "y", false, api.Fit{New: 1}, api.OK})
	wantPuts(t, holes(t, 1), put{0, "yy", false, api.Fit{}, api.ErrFar})
}

// 11.2.5: once the end is known, another end and what reaches past it are refused.
func TestKnownEnd(t *testing.T) {
	h := holes(t, 64)
	wantPuts(t, h,
		put{16, "endendend", false, api.Fit{New: 9}, api.OK},
		put{24, "d", false, api.Fit{Old: 1}, api.OK},
		put{24, "dd", false, api.Fit{}, api.ErrEnd},
		put{16, "endenden", false, api.Fit{}, api.ErrEnd},
		put{0, "y", false, api.Fit{}, api.ErrEnd},
		put{56, "y", false, api.Fit{}, api.ErrEnd},
		put{24, "yyyyyyyy", true, api.Fit{}, api.ErrPast},
		put{0, run("y", 32), true, api.Fit{}, api.ErrPast},
		put{56, "yyyyyyyy", true, api.Fit{}, api.ErrPast},
		put{16, "yyyyyyyy", true, api.Fit{Old: 8}, api.OK},
		put{0, run("y", 25), false, api.Fit{New: 16, Old: 9}, api.OK})
	wantTotal(t, h, 25, true)
	wantWhole(t, h, run("y", 16)+"endendend")
}

// 11.2.5: a piece that is not the last may reach just to the known end.
func TestUpToTheKnownEnd(t *testing.T) {
	h := holes(t, 64)
	wantPuts(t, h,
		put{24, "endendxx", false, api.Fit{New: 8}, api.OK},
		put{24, "yyyyyyyy", true, api.Fit{Old: 8}, api.OK},
		put{16, run("y", 16), true, api.Fit{New: 8, Old: 8}, api.OK},
		put{16, run("y", 24), true, api.Fit{}, api.ErrPast})
	wantGaps(t, h, [2]int{0, 16})
}

// 11.2.6: while the end is not known, it is no place at or ahead of a byte that is held.
func TestEndAheadOfBytes(t *testing.T) {
	h := holes(t, 64)
	wantPuts(t, h, put{32, "yyyyyyyy", true, api.Fit{New: 8}, api.OK}, put{8, "yyyyyyyy", true, api.Fit{New: 8}, api.OK})
	for n := 1; n < 40; n++ {
		wantPuts(t, h, put{0, run("z", n), false, api.Fit{}, api.ErrEnd})
	}
	wantTotal(t, h, 0, false)
	wantPuts(t, h, put{0, run("z", 40), false, api.Fit{New: 24, Old: 16}, api.OK})
	wantWhole(t, h, "zzzzzzzzyyyyyyyyzzzzzzzzzzzzzzzzyyyyyyyy")
}

// 11.2: Same is true of a piece of one off, one number of bytes and one more, whose bytes are those that are held.
func TestSame(t *testing.T) {
	h := holes(t, 64)
	wantPuts(t, h,
		put{8, run("a", 16), true, api.Fit{New: 16}, api.OK},
		put{8, run("a", 16), true, api.Fit{Old: 16, Same: true}, api.OK},
		put{8, run("a", 8), true, api.Fit{Old: 8}, api.OK},
		put{8, run("a", 8), true, api.Fit{Old: 8, Same: true}, api.OK},
		put{16, run("a", 8), true, api.Fit{Old: 8}, api.OK},
		put{8, run("a", 15) + "b", true, api.Fit{Old: 16}, api.OK},
		put{8, run("a", 15) + "b", true, api.Fit{Old: 16}, api.OK},
		put{8, "b" + run("a", 15), true, api.Fit{Old: 16}, api.OK},
		put{8, run("a", 16), true, api.Fit{Old: 16, Same: true}, api.OK},
		put{8, run("a", 16), false, api.Fit{Old: 16}, api.OK},
		put{8, run("a", 16), false, api.Fit{Old: 16, Same: true}, api.OK},
		put{8, run("b", 16), false, api.Fit{Old: 16}, api.OK})
}

// 11.2: what is held decides, not what the earlier piece brought.
func TestSameAsWhatIsHeld(t *testing.T) {
	h := holes(t, 64)
	wantPuts(t, h,
		put{8, run("a", 8), true, api.Fit{New: 8}, api.OK},
		put{0, run("b", 24), true, api.Fit{New: 16, Old: 8}, api.OK},
		put{0, run("b", 24), true, api.Fit{Old: 24}, api.OK},
		put{0, run("b", 8) + run("a", 8) + run("b", 8), true, api.Fit{Old: 24, Same: true}, api.OK})
}

// 11.2: what was refused for its end stays refused, whatever comes, and is never the same as anything.
func TestRefusedAgain(t *testing.T) {
	h := holes(t, 64)
	ahead := []put{{16, run("a", 8), false, api.Fit{}, api.ErrEnd}, {0, run("a", 25), false, api.Fit{}, api.ErrEnd}}
	wantPuts(t, h, put{0, run("a", 32), true, api.Fit{New: 32}, api.OK})
	wantPuts(t, h, ahead...)
	wantPuts(t, h, put{24, run("a", 8), false, api.Fit{Old: 8}, api.OK}, put{24, run("a", 16), true, api.Fit{}, api.ErrPast})
	wantPuts(t, h, ahead...)
	wantPuts(t, h, put{24, run("a", 16), true, api.Fit{}, api.ErrPast}, put{24, run("a", 8), false, api.Fit{Old: 8, Same: true}, api.OK})
}
