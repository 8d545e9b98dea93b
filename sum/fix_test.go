package sum_test

import (
	"bytes"
	"math"
	"math/rand"
	"slices"
	"testing"

	"weir/api"
	"weir/sum"
)

// noWords are numbers just past a word, and far past it.
var noWords = []int{math.MinInt, math.MinInt + 1, -65536, -65535, -2, -1, 65536, 65537, 131071, math.MaxInt - 65535, math.MaxInt - 1, math.MaxInt}

// 2.5
func TestFix(t *testing.T) {
	rows := []struct{ check, old, now, want int }{
		{0xdd2f, 0x5555, 0x3285, 0}, {0, 0, 0, 0}, {0x220d, 0xf203, 0xf203, 0x220d}, {0xfffe, 1, 0, 0}, {0x220d, 0, 0, 0x220d},
		{0xffff, 0, 0, 0}, {0xffff, 0, 1, 0xfffe}, {0xffff, 0, 0xffff, 0}, {0xffff, 0xffff, 0, 0xffff}, {0, 0xffff, 0, 0}, {0, 0, 0xffff, 0}, {0, 0xffff, 0xffff, 0},
		{0xffff, 0xffff, 0xffff, 0}, {0xffff, 0xffff, 0x1234, 0xedcb}, {0x1234, 0xffff, 0, 0x1234}, {0x8000, 0x0001, 0x8000, 1},
	}
	for _, r := range rows {
		if got, e := sum.Fix(r.check, r.old, r.now); got != r.want || e != api.OK {
			t.Errorf("Fix(%#x, %#x, %#x) = %#x, %d, want %#x", r.check, r.old, r.now, got, e, r.want)
		}
	}
}

// fixed is 2.5 as it stands, in plain numbers.
func fixed(check, old, now int) int {
	n := 65535 - check + 65535 - old + now
	for n > 65535 {
		n = n%65536 + n/65536
	}
	return 65535 - n
}

// 2.5
func TestFixOfAnyWords(t *testing.T) {
	r := rand.New(rand.NewSource(10))
	ends := []int{0, 1, 2, 0x7fff, 0x8000, 0xfffe, 0xffff}
	some := func() int {
		if r.Intn(2) == 0 {
			return ends[r.Intn(len(ends))]
		}
		return r.Intn(65536)
	}
	for range 20000 {
		check, old, now := some(), some(), some()
		if got, e := sum.Fix(check, old, now); got != fixed(check, old, now) || e != api.OK {
			t.Fatalf("Fix(%#x, %#x, %#x) = %#x, %d, want %#x", check, old, now, got, e, fixed(check, old, now))
		}
	}
}

// 2.5, 2.11
func TestFixRefuses(t *testing.T) {
	for _, n := range noWords {
		for _, c := range [][3]int{{n, 0, 0}, {0, n, 0}, {0, 0, n}, {n, n, n}, {n, 65535, 1}, {7, n, n}, {65535, 65535, n}} {
			if got, e := sum.Fix(c[0], c[1], c[2]); got != 0 || e != api.ErrHalf {
				t.Errorf("Fix(%d, %d, %d) = %d, %d, want 0, %d", c[0], c[1], c[2], got, e, api.ErrHalf)
			}
		}
	}
}

// 2.6
func TestFixBytes(t *testing.T) {
	rows := []struct {
		check    int
		old, now []byte
		want     int
	}{
		{0x220d, []byte{0xf2, 3}, []byte{0xf2, 3}, 0x220d}, {7, nil, nil, 7}, {0xffff, nil, []byte{}, 0xffff}, {0, []byte{}, nil, 0}, {65535, []byte{0}, []byte{0}, 0},
		{0xdd2f, []byte{0x55, 0x55}, []byte{0x32, 0x85}, 0}, {0xdd2f, []byte{0x55, 0x55, 1}, []byte{0x32, 0x85, 1}, 0}, {0xdd2f, []byte{0, 0, 0x55, 0x55}, []byte{0, 0, 0x32, 0x85}, 0},
		{0x1000, []byte{1}, []byte{2}, 0x0f00}, {0x1000, []byte{0, 0, 1}, []byte{0, 0, 2}, 0x0f00}, {0x1000, []byte{0, 1}, []byte{0, 2}, 0x0fff}, {0xffff, []byte{0, 0}, []byte{0xff, 0xff}, 0},
	}
	for _, r := range rows {
		if got, e := sum.FixBytes(r.check, r.old, r.now); got != r.want || e != api.OK {
			t.Errorf("FixBytes(%#x, %x, %x) = %#x, %d, want %#x", r.check, r.old, r.now, got, e, r.want)
		}
	}
}

// 2.6
func TestFixBytesIsFixOfEachWord(t *testing.T) {
	r := rand.New(rand.NewSource(11))
	for range 3000 {
		n := r.Intn(12)
		old, now, check := someBytes(r, n), someBytes(r, n), []int{0, 65535, r.Intn(65536)}[r.Intn(3)]
		want := check
		evenOld, evenNow := append(slices.Clone(old), 0), append(slices.Clone(now), 0)
		for i := 0; i < n; i += 2 {
			want = fixed(want, wordAt(evenOld, i), wordAt(evenNow, i))
		}
		if got, e := sum.FixBytes(check, old, now); got != want || e != api.OK {
			t.Fatalf("FixBytes(%#x, %x, %x) = %#x, %d, want %#x", check, old, now, got, e, want)
		}
	}
}

// 2.6, 2.11
func TestFixBytesRefuses(t *testing.T) {
	for _, n := range noWords {
		for _, c := range [][2][]byte{{nil, nil}, {{1, 2}, {3, 4}}, {{1}, nil}, {{1}, {1, 2}}} {
			if got, e := sum.FixBytes(n, c[0], c[1]); got != 0 || e != api.ErrHalf {
				t.Errorf("FixBytes(%d, %x, %x) = %d, %d", n, c[0], c[1], got, e)
			}
		}
	}
	for _, check := range []int{0, 1, 0x220d, 65535} {
		for _, c := range [][2][]byte{{{0}, {0, 0}}, {{0, 0}, {0}}, {nil, {1}}, {{1}, nil}, {{1, 2, 3}, {1, 2}}, {{}, {0, 0, 0, 0}}} {
			if got, e := sum.FixBytes(check, c[0], c[1]); got != 0 || e != api.ErrUnlike {
				t.Errorf("FixBytes(%d, %x, %x) = %d, %d", check, c[0], c[1], got, e)
			}
		}
	}
}

// 2.8
func TestTurningAlongIsReckoningAnew(t *testing.T) {
	r := rand.New(rand.NewSource(12))
	for range 5000 {
		b := someBytes(r, 2+r.Intn(20))
		at := r.Intn(len(b)/2) * 2
		check, old := sum.Check(b), wordAt(b, at)
		now := []int{0, 1, 65535, old, 65535 - old, r.Intn(65536)}[r.Intn(6)]
		setWord(b, at, now)
		want := sum.Check(b)
		if sum.Sum(b) == 0 {
			want = 0
		}
		if got, e := sum.Fix(check, old, now); got != want || e != api.OK {
			t.Fatalf("%x, %#x to %#x at %d: %#x, %d, want %#x", b, old, now, at, got, e, want)
		}
	}
}

// 2.8: a word turned until nothing is left but zeros.
func TestTurningToZeros(t *testing.T) {
	for old := range 65536 {
		b := []byte{0, 0, byte(old >> 8), byte(old), 0}
		if got, e := sum.Fix(sum.Check(b), old, 0); got != 0 || e != api.OK {
			t.Fatalf("%#x to 0: %#x, %d", old, got, e)
		}
	}
}

// 2.6, 2.8: a run at the end, of odd length too.
func TestTurningARunAlong(t *testing.T) {
	r := rand.New(rand.NewSource(13))
	for range 3000 {
		b := someBytes(r, 1+r.Intn(30))
		at := r.Intn((len(b)+1)/2) * 2
		check, old := sum.Check(b), slices.Clone(b[at:])
		now := someBytes(r, len(old))
		copy(b[at:], now)
		want := sum.Check(b)
		if sum.Sum(b) == 0 {
			want = 0
		}
		if got, e := sum.FixBytes(check, old, now); got != want || e != api.OK {
			t.Fatalf("%x to %x at %d: %#x, %d, want %#x", old, now, at, got, e, want)
		}
	}
}

// 2.11
func TestFixBytesLeavesItsBytesAlone(t *testing.T) {
	old, now := []byte{1, 2, 3, 4, 5, 6}, []byte{7, 8, 9, 10, 11, 12}
	first, _ := sum.FixBytes(0x1234, old[:3], now[:3])
	second, _ := sum.FixBytes(0x1234, old[:3], now[:3])
	if first != second {
		t.Error("another answer than before")
	}
	if !bytes.Equal(old, []byte{1, 2, 3, 4, 5, 6}) || !bytes.Equal(now, []byte{7, 8, 9, 10, 11, 12}) {
		t.Errorf("changed: %v, %v", old, now)
	}
}
