package view_test

import (
	"bytes"
	"math"
	"math/rand"
	"slices"
	"testing"

	"weir/api"
	"weir/view"
)

// edges are numbers at which a sum of places may go wrong.
var edges = []int{math.MinInt, math.MinInt + 1, -9, -8, -1, 0, 1, 2, 3, 4, 5, 7, 8, 9, 255, 256, 65535, 65536, math.MaxInt - 8, math.MaxInt - 1, math.MaxInt}

// 1.1
func TestUintReadsTheHighestByteFirst(t *testing.T) {
	b := []byte{1, 2, 3, 4, 5, 6, 7, 8, 0xff}
	rows := []struct {
		at, n int
		want  uint64
	}{
		{0, 1, 1}, {0, 2, 0x0102}, {0, 3, 0x010203}, {0, 4, 0x01020304}, {0, 5, 0x0102030405}, {0, 6, 0x010203040506},
		{0, 7, 0x01020304050607}, {0, 8, 0x0102030405060708}, {1, 8, 0x02030405060708ff}, {1, 2, 515}, {8, 1, 255}, {7, 2, 0x08ff},
	}
	for _, r := range rows {
		if v, e := view.Uint(b, r.at, r.n); v != r.want || e != api.OK {
			t.Errorf("Uint(.., %d, %d) = %#x, %d, want %#x", r.at, r.n, v, e, r.want)
		}
	}
	if v, e := view.Uint(slices.Repeat([]byte{0xff}, 8), 0, 8); v != math.MaxUint64 || e != api.OK {
		t.Errorf("eight times ff: %#x, %d", v, e)
	}
}

// 1.1
func TestUintRefuses(t *testing.T) {
	b := []byte{1, 2, 3}
	rows := []struct {
		b     []byte
		at, n int
		want  api.Errno
	}{
		{b, 0, 0, api.ErrArg}, {b, 0, 9, api.ErrArg}, {b, 0, -1, api.ErrArg}, {b, 0, math.MinInt, api.ErrArg}, {b, 0, math.MaxInt, api.ErrArg},
		{b, 5, 9, api.ErrArg}, {b, -1, 0, api.ErrArg}, {nil, 0, 0, api.ErrArg},
		{b, 2, 2, api.ErrOut}, {b, 3, 1, api.ErrOut}, {b, 4, 1, api.ErrOut}, {b, 0, 4, api.ErrOut}, {b, 0, 8, api.ErrOut},
		{b, -1, 1, api.ErrOut}, {b, -1, 2, api.ErrOut}, {b, math.MinInt, 8, api.ErrOut}, {b, math.MaxInt, 1, api.ErrOut}, {b, math.MaxInt, 8, api.ErrOut},
		{nil, 0, 1, api.ErrOut}, {[]byte{}, 0, 1, api.ErrOut},
	}
	for _, r := range rows {
		if v, e := view.Uint(r.b, r.at, r.n); v != 0 || e != r.want {
			t.Errorf("Uint(%v, %d, %d) = %d, %d, want 0, %d", r.b, r.at, r.n, v, e, r.want)
		}
	}
}

// 1.2
func TestFieldsReadsBits(t *testing.T) {
	b := []byte{0x45, 0xc0, 0xff, 0x80, 0x01, 0xfe}
	rows := []struct {
		at     int
		widths []int
		want   []int
		end    int
	}{
		{0, []int{4, 4, 6, 2}, []int{4, 5, 48, 0}, 2},
		{0, []int{8}, []int{0x45}, 1},
		{0, []int{16}, []int{0x45c0}, 2},
		{0, []int{32}, []int{0x45c0ff80}, 4},
		{0, []int{1, 1, 1, 1, 1, 1, 1, 1}, []int{0, 1, 0, 0, 0, 1, 0, 1}, 1},
		{2, []int{9, 15}, []int{0x1ff, 1}, 5},
		{1, []int{7, 32, 1}, []int{0x60, 0x7fc000ff, 0}, 6},
		{5, []int{7, 1}, []int{0x7f, 0}, 6},
		{0, nil, nil, 0}, {3, nil, nil, 3}, {6, nil, nil, 6},
	}
	for _, r := range rows {
		v, end, e := view.Fields(b, r.at, r.widths...)
		if !slices.Equal(v, r.want) || end != r.end || e != api.OK {
			t.Errorf("Fields(.., %d, %v) = %v, %d, %d, want %v, %d", r.at, r.widths, v, end, e, r.want, r.end)
		}
	}
}

// 1.2
func TestFieldsTakesMaxFieldsOfAnyWidth(t *testing.T) {
	b := slices.Repeat([]byte{0xff}, 256)
	for _, w := range []int{1, 2, 8, 31, 32} {
		widths := slices.Repeat([]int{w}, api.MaxFields)
		v, end, e := view.Fields(b, 0, widths...)
		if len(v) != api.MaxFields || end != 8*w || e != api.OK {
			t.Fatalf("64 widths of %d: %d values, %d, %d", w, len(v), end, e)
		}
		for i, x := range v {
			if x != 1<<w-1 {
				t.Errorf("64 widths of %d: value %d is %#x", w, i, x)
			}
		}
	}
}

// wrongWidths are no widths of fields: too many, one out of its bounds, or no whole bytes.
func wrongWidths() [][]int {
	return [][]int{
		{4}, {8, 1}, {7}, {31}, {32, 7},
		{0}, {0, 8}, {8, 0}, {-8}, {-8, 16}, {33}, {33, 7}, {40}, {64}, {8, 40},
		{math.MinInt}, {math.MaxInt}, {math.MaxInt, math.MaxInt, 2}, {math.MinInt, math.MinInt},
		slices.Repeat([]int{8}, api.MaxFields+1), slices.Repeat([]int{1}, 72), make([]int, 65), slices.Repeat([]int{8}, 1000),
	}
}

// 1.2
func TestFieldsRefuses(t *testing.T) {
	b := make([]byte, 2000)
	for _, w := range wrongWidths() {
		for _, at := range []int{0, 3, -1, 2001, math.MaxInt} {
			if v, end, e := view.Fields(b, at, w...); len(v) != 0 || end != 0 || e != api.ErrWidths {
				t.Errorf("Fields(.., %d, %v) = %v, %d, %d, want ErrWidths", at, w, v, end, e)
			}
		}
	}
	b = b[:3]
	rows := []struct {
		at     int
		widths []int
	}{
		{-1, nil}, {4, nil}, {math.MinInt, nil}, {math.MaxInt, nil},
		{-1, []int{8}}, {3, []int{8}}, {4, []int{8}}, {2, []int{16}}, {0, []int{32}}, {0, []int{8, 8, 8, 8}}, {1, []int{4, 4, 8, 1, 7}},
		{math.MaxInt, []int{8}}, {math.MinInt, []int{8}}, {math.MaxInt, []int{32, 32}},
	}
	for _, r := range rows {
		if v, end, e := view.Fields(b, r.at, r.widths...); len(v) != 0 || end != 0 || e != api.ErrOut {
			t.Errorf("Fields(.., %d, %v) = %v, %d, %d, want ErrOut", r.at, r.widths, v, end, e)
		}
	}
}

// 1.3
func TestPackWritesBits(t *testing.T) {
	rows := []struct {
		widths, values []int
		want           string
	}{
		{[]int{4, 4, 6, 2}, []int{4, 5, 48, 0}, "\x45\xc0"},
		{[]int{8}, []int{255}, "\xff"},
		{[]int{1, 7}, []int{1, 0}, "\x80"},
		{[]int{1, 31}, []int{0, 1<<31 - 1}, "\x7f\xff\xff\xff"},
		{[]int{32}, []int{1<<32 - 1}, "\xff\xff\xff\xff"},
		{[]int{7, 32, 1}, []int{0x60, 0x7fc000ff, 0}, "\xc0\xff\x80\x01\xfe"},
		{[]int{8, 8, 8}, []int{0, 0, 0}, "\x00\x00\x00"},
		{nil, nil, ""}, {[]int{}, nil, ""},
	}
	for _, r := range rows {
		if b, e := view.Pack(r.widths, r.values); string(b) != r.want || e != api.OK {
			t.Errorf("Pack(%v, %v) = %x, %d, want %x", r.widths, r.values, b, e, r.want)
		}
	}
	many := slices.Repeat([]int{32}, api.MaxFields)
	if b, e := view.Pack(many, make([]int, api.MaxFields)); len(b) != 256 || e != api.OK {
		t.Errorf("Pack of 64 widths: %d bytes, %d", len(b), e)
	}
}

// 1.3
func TestPackRefuses(t *testing.T) {
	refused := func(widths, values []int, want api.Errno) {
		t.Helper()
		if b, e := view.Pack(widths, values); len(b) != 0 || e != want {
			t.Errorf("Pack(%v, %v) = %x, %d, want %d", widths, values, b, e, want)
		}
	}
	for _, w := range wrongWidths() {
		refused(w, make([]int, len(w)), api.ErrWidths)
		refused(w, nil, api.ErrWidths)
		refused(w, slices.Repeat([]int{-1}, len(w)), api.ErrWidths)
	}
	refused([]int{4, 4}, []int{4}, api.ErrArg)
	refused([]int{4, 4}, []int{4, 4, 4}, api.ErrArg)
	refused([]int{4, 4}, nil, api.ErrArg)
	refused(nil, []int{0}, api.ErrArg)
	refused([]int{4, 4}, []int{16}, api.ErrArg)
	for w := 1; w <= 32; w++ {
		pad := 8 - (w-1)%8
		refused([]int{pad, w, 7}, []int{0, 1 << w, 0}, api.ErrValue)
	}
	refused([]int{4, 4}, []int{4, 16}, api.ErrValue)
	refused([]int{4, 4}, []int{16, 4}, api.ErrValue)
	refused([]int{4, 4}, []int{-1, 4}, api.ErrValue)
	refused([]int{4, 4}, []int{4, math.MinInt}, api.ErrValue)
	refused([]int{32}, []int{math.MaxInt}, api.ErrValue)
	refused([]int{32}, []int{1 << 32}, api.ErrValue)
	refused([]int{32}, []int{-1 << 32}, api.ErrValue)
}

// 1.4
func TestWindowSharesMemory(t *testing.T) {
	b := []byte{1, 2, 3}
	w, e := view.Window(b, 1, 2)
	if string(w) != "\x02\x03" || e != api.OK {
		t.Fatalf("Window(.., 1, 2) = %v, %d", w, e)
	}
	w[0] = 9
	if string(b) != "\x01\x09\x03" {
		t.Errorf("what is written into the window is not seen: %v", b)
	}
	b[2] = 8
	if w[1] != 8 {
		t.Errorf("what is written into the bytes is not seen: %v", w)
	}
}

// 1.4
func TestWindowHasNoSpareRoom(t *testing.T) {
	whole := []byte{1, 2, 3, 4, 5, 6}
	b := whole[:4]
	for at := range len(b) + 1 {
		for n := range len(b) - at + 1 {
			w, e := view.Window(b, at, n)
			if e != api.OK || len(w) != n || cap(w) != n || !bytes.Equal(w, b[at:at+n]) {
				t.Fatalf("Window(.., %d, %d) = %v (room for %d), %d", at, n, w, cap(w), e)
			}
			_ = append(w, 99)
			if string(whole) != "\x01\x02\x03\x04\x05\x06" {
				t.Fatalf("append to Window(.., %d, %d) ran into %v", at, n, whole)
			}
		}
	}
}

// 1.4
func TestWindowRefuses(t *testing.T) {
	b := make([]byte, 3, 9)
	rows := []struct {
		at, n int
		want  api.Errno
	}{
		{0, -1, api.ErrArg}, {-1, -1, api.ErrArg}, {9, -1, api.ErrArg}, {0, math.MinInt, api.ErrArg}, {math.MaxInt, math.MinInt, api.ErrArg},
		{4, 0, api.ErrOut}, {-1, 0, api.ErrOut}, {-1, 1, api.ErrOut}, {0, 4, api.ErrOut}, {2, 2, api.ErrOut}, {3, 1, api.ErrOut}, {0, 9, api.ErrOut},
		{1, math.MaxInt, api.ErrOut}, {math.MaxInt, 1, api.ErrOut}, {math.MaxInt, math.MaxInt, api.ErrOut}, {math.MinInt, math.MaxInt, api.ErrOut}, {math.MaxInt, 0, api.ErrOut},
	}
	for _, r := range rows {
		if w, e := view.Window(b, r.at, r.n); len(w) != 0 || cap(w) != 0 || e != r.want {
			t.Errorf("Window(.., %d, %d) = %v, %d, want %d", r.at, r.n, w, e, r.want)
		}
	}
	if w, e := view.Window(nil, 0, 0); len(w) != 0 || e != api.OK {
		t.Errorf("Window(nothing, 0, 0) = %v, %d", w, e)
	}
	if w, e := view.Window(nil, 0, 1); len(w) != 0 || e != api.ErrOut {
		t.Errorf("Window(nothing, 0, 1) = %v, %d", w, e)
	}
}

// someWidths makes at most MaxFields widths that fill whole bytes.
func someWidths(r *rand.Rand) []int {
	var widths []int
	bits := 0
	for range r.Intn(api.MaxFields) {
		w := 1 + r.Intn(32)
		widths = append(widths, w)
		bits += w
	}
	if bits%8 != 0 {
		widths = append(widths, 8-bits%8)
	}
	return widths
}

// 1.10
func TestWhatIsPackedIsReadAgain(t *testing.T) {
	r := rand.New(rand.NewSource(1))
	for range 2000 {
		widths := someWidths(r)
		values := make([]int, len(widths))
		for i, w := range widths {
			values[i] = r.Intn(1 << w)
		}
		packed, e := view.Pack(widths, values)
		if e != api.OK {
			t.Fatalf("Pack(%v, %v): %d", widths, values, e)
		}
		ahead, behind := make([]byte, r.Intn(9)), make([]byte, r.Intn(9))
		r.Read(ahead)
		r.Read(behind)
		got, end, e := view.Fields(slices.Concat(ahead, packed, behind), len(ahead), widths...)
		if !slices.Equal(got, values) || end != len(ahead)+len(packed) || e != api.OK {
			t.Fatalf("widths %v: packed %v, read %v, end %d, %d", widths, values, got, end, e)
		}
	}
}

// 1.10
func TestWhatIsReadIsPackedAgain(t *testing.T) {
	r := rand.New(rand.NewSource(2))
	b := make([]byte, 400)
	for range 2000 {
		r.Read(b)
		widths, at := someWidths(r), r.Intn(100)
		values, end, e := view.Fields(b, at, widths...)
		if e != api.OK {
			t.Fatalf("Fields(.., %d, %v): %d", at, widths, e)
		}
		if got, e := view.Pack(widths, values); !bytes.Equal(got, b[at:end]) || e != api.OK {
			t.Fatalf("widths %v: read of %x, packed %x, %d", widths, b[at:end], got, e)
		}
	}
}

// 1.11
func TestNothingBesideIsRead(t *testing.T) {
	middle := []byte{0x12, 0x34, 0x56, 0x78}
	for _, beside := range []byte{0, 0x55, 0xaa, 0xff} {
		b := slices.Concat(slices.Repeat([]byte{beside}, 5), middle, slices.Repeat([]byte{beside}, 5))
		if v, e := view.Uint(b, 5, 4); v != 0x12345678 || e != api.OK {
			t.Errorf("beside %x: Uint = %#x, %d", beside, v, e)
		}
		if v, end, e := view.Fields(b, 5, 4, 12, 9, 7); !slices.Equal(v, []int{1, 0x234, 0xac, 0x78}) || end != 9 || e != api.OK {
			t.Errorf("beside %x: Fields = %#x, %d, %d", beside, v, end, e)
		}
		if w, e := view.Window(b, 5, 4); !bytes.Equal(w, middle) || e != api.OK {
			t.Errorf("beside %x: Window = %x, %d", beside, w, e)
		}
	}
}

// 1.11: bytes in the spare room are not there.
func TestSpareRoomIsNotRead(t *testing.T) {
	b := []byte{1, 2, 3, 4, 5, 6, 7, 8, 9, 10}[:3]
	if v, e := view.Uint(b, 2, 2); v != 0 || e != api.ErrOut {
		t.Errorf("Uint = %d, %d", v, e)
	}
	if v, end, e := view.Fields(b, 2, 16); len(v) != 0 || end != 0 || e != api.ErrOut {
		t.Errorf("Fields = %v, %d, %d", v, end, e)
	}
	if v, end, e := view.Fields(b, 4); len(v) != 0 || end != 0 || e != api.ErrOut {
		t.Errorf("Fields without widths = %v, %d, %d", v, end, e)
	}
	if w, e := view.Window(b, 2, 2); len(w) != 0 || e != api.ErrOut {
		t.Errorf("Window = %v, %d", w, e)
	}
	c := view.At(b)
	if v, e := c.Uint(4); v != 0 || e != api.ErrOut || c.Left() != 3 {
		t.Errorf("a cursor's Uint = %d, %d, %d left", v, e, c.Left())
	}
}

// 1.12
func TestLooksEndWhateverTheyAreGiven(t *testing.T) {
	for _, b := range [][]byte{nil, {}, {1}, {1, 2, 3, 4, 5, 6, 7, 8, 9}} {
		for _, at := range edges {
			for _, n := range edges {
				there := at >= 0 && at <= len(b) && n <= len(b)-at
				if _, e := view.Uint(b, at, n); (e == api.OK) != (there && n >= 1 && n <= 8) {
					t.Errorf("Uint(%v, %d, %d): %d", b, at, n, e)
				}
				if _, e := view.Window(b, at, n); (e == api.OK) != (there && n >= 0) {
					t.Errorf("Window(%v, %d, %d): %d", b, at, n, e)
				}
				if _, _, e := view.Fields(b, at, n); (e == api.OK) != (n == 8 && at >= 0 && at < len(b)) {
					t.Errorf("Fields(%v, %d, %d): %d", b, at, n, e)
				}
				if _, e := view.Pack([]int{n}, []int{at}); (e == api.OK) != (n == 8 && at >= 0 && at < 256) {
					t.Errorf("Pack(%d, %d): %d", n, at, e)
				}
			}
		}
	}
}

// 1.12
func TestLooksChangeNothing(t *testing.T) {
	whole := []byte{1, 2, 3, 4, 5, 6}
	before := slices.Clone(whole)
	b := whole[:4]
	widths := []int{4, 12, 16, 99}[:3]
	values := []int{1, 2, 3, 99}[:3]
	view.Uint(b, 1, 3)
	view.Uint(b, 1, 8)
	view.Fields(b, 0, widths...)
	view.Window(b, 1, 2)
	c := view.At(b)
	c.Uint(2)
	c.Window(1)
	c.Skip(1)
	view.Pack(widths, values)
	view.Pack(widths, values[:2])
	if !slices.Equal(whole, before) {
		t.Errorf("the bytes are %v now", whole)
	}
	if !slices.Equal(widths[:4], []int{4, 12, 16, 99}) || !slices.Equal(values[:4], []int{1, 2, 3, 99}) {
		t.Errorf("widths %v, values %v now", widths[:4], values[:4])
	}
}

// 1.12
func TestAnswersAreNewMemory(t *testing.T) {
	b, widths := []byte{0x45, 0xc0}, []int{4, 4, 6, 2}
	first, _, _ := view.Fields(b, 0, widths...)
	scribble(first)
	second, _, _ := view.Fields(b, 0, widths...)
	if !slices.Equal(second, []int{4, 5, 48, 0}) || !slices.Equal(widths, []int{4, 4, 6, 2}) {
		t.Errorf("Fields: %v, widths %v", second, widths)
	}
	one, _ := view.Pack(widths, second)
	scribble(one)
	two, _ := view.Pack(widths, second)
	if !bytes.Equal(two, b) || !slices.Equal(second, []int{4, 5, 48, 0}) || !slices.Equal(widths, []int{4, 4, 6, 2}) {
		t.Errorf("Pack: %x, values %v, widths %v", two, second, widths)
	}
}

// scribble overwrites a list and its spare room.
func scribble[T byte | int](l []T) {
	l = l[:cap(l)]
	for i := range l {
		l[i] = 77
	}
}
