package view_test

import (
	"bytes"
	"math"
	"slices"
	"testing"

	"weir/api"
	"weir/view"
)

func builder(t *testing.T, max int) *view.Builder {
	t.Helper()
	b, e := view.NewBuilder(max)
	if b == nil || e != api.OK {
		t.Fatalf("NewBuilder(%d): %d", max, e)
	}
	return b
}

// holds tells whether b holds just these bytes.
func holds(t *testing.T, b *view.Builder, want string) {
	t.Helper()
	if got := b.Done(); string(got) != want || b.Len() != len(want) {
		t.Fatalf("it holds %x, Len %d, want %x", got, b.Len(), want)
	}
}

func answers(t *testing.T, what string, got, want api.Errno) {
	t.Helper()
	if got != want {
		t.Errorf("%s = %d, want %d", what, got, want)
	}
}

// 1.7
func TestNewBuilder(t *testing.T) {
	for _, max := range []int{0, 1, 1500, api.MaxBytes} {
		holds(t, builder(t, max), "")
	}
	for _, max := range []int{-1, api.MaxBytes + 1, math.MinInt, math.MaxInt} {
		if b, e := view.NewBuilder(max); b != nil || e != api.ErrArg {
			t.Errorf("NewBuilder(%d) = %v, %d", max, b, e)
		}
	}
}

// 1.7
func TestABuilderHoldsMaxBytes(t *testing.T) {
	for _, max := range []int{0, 1, 7, 8, api.MaxBytes} {
		b := builder(t, max)
		answers(t, "one byte above max", b.Bytes(make([]byte, max+1)), api.ErrBuilt)
		holds(t, b, "")
		answers(t, "max bytes", b.Bytes(make([]byte, max)), api.OK)
		answers(t, "Put above max", b.Put(1, 0), api.ErrBuilt)
		answers(t, "Bytes above max", b.Bytes([]byte{1}), api.ErrBuilt)
		answers(t, "no byte", b.Bytes(nil, []byte{}), api.OK)
		if b.Len() != max {
			t.Errorf("Len() = %d, want %d", b.Len(), max)
		}
	}
}

// 1.8
func TestPut(t *testing.T) {
	b := builder(t, 100)
	want := ""
	for n := 1; n <= 8; n++ {
		answers(t, "Put", b.Put(n, 0x0102030405060708>>(64-8*n)), api.OK)
		want += "\x01\x02\x03\x04\x05\x06\x07\x08"[:n]
		holds(t, b, want)
	}
	answers(t, "Put(2, 1)", b.Put(2, 1), api.OK)
	answers(t, "Put(8, 0)", b.Put(8, 0), api.OK)
	answers(t, "Put(8, most)", b.Put(8, math.MaxUint64), api.OK)
	holds(t, b, want+"\x00\x01"+"\x00\x00\x00\x00\x00\x00\x00\x00"+"\xff\xff\xff\xff\xff\xff\xff\xff")
}

// 1.8
func TestPutRefuses(t *testing.T) {
	b := builder(t, 3)
	answers(t, "Put(2, 258)", b.Put(2, 258), api.OK)
	for _, n := range []int{0, 9, -1, math.MinInt, math.MaxInt} {
		answers(t, "Put of no number", b.Put(n, 0), api.ErrArg)
		answers(t, "Put of no number", b.Put(n, math.MaxUint64), api.ErrArg)
	}
	for n := 1; n <= 7; n++ {
		answers(t, "Put above its width", b.Put(n, 1<<(8*n)), api.ErrValue)
		answers(t, "Put above its width", b.Put(n, math.MaxUint64), api.ErrValue)
	}
	for n := 2; n <= 8; n++ {
		answers(t, "Put above max", b.Put(n, 1), api.ErrBuilt)
	}
	holds(t, b, "\x01\x02")
	answers(t, "Put(1, 255)", b.Put(1, 255), api.OK)
	answers(t, "Put(1, 0)", b.Put(1, 0), api.ErrBuilt)
	holds(t, b, "\x01\x02\xff")
}

// 1.8
func TestBytes(t *testing.T) {
	b := builder(t, 6)
	answers(t, "Bytes()", b.Bytes(), api.OK)
	answers(t, "Bytes of nothing", b.Bytes(nil, nil), api.OK)
	holds(t, b, "")
	answers(t, "Bytes(ab, , c)", b.Bytes([]byte("ab"), nil, []byte("c")), api.OK)
	holds(t, b, "abc")
	answers(t, "Bytes(d, efg)", b.Bytes([]byte("d"), []byte("efg")), api.ErrBuilt)
	answers(t, "Bytes(defg, )", b.Bytes([]byte("defg"), nil), api.ErrBuilt)
	answers(t, "Bytes(def, , g)", b.Bytes([]byte("def"), nil, []byte("g")), api.ErrBuilt)
	holds(t, b, "abc")
	answers(t, "Bytes(d, ef)", b.Bytes([]byte("d"), []byte("ef")), api.OK)
	holds(t, b, "abcdef")
}

// 1.8
func TestPatch(t *testing.T) {
	b := builder(t, 20)
	b.Bytes([]byte("abcdefghij"))
	answers(t, "Patch(0, 2, 9)", b.Patch(0, 2, 9), api.OK)
	holds(t, b, "\x00\x09cdefghij")
	answers(t, "Patch(9, 1, 255)", b.Patch(9, 1, 255), api.OK)
	holds(t, b, "\x00\x09cdefghi\xff")
	answers(t, "Patch(2, 8, ..)", b.Patch(2, 8, 0x0102030405060708), api.OK)
	holds(t, b, "\x00\x09\x01\x02\x03\x04\x05\x06\x07\x08")
	answers(t, "Patch(1, 8, most)", b.Patch(1, 8, math.MaxUint64), api.OK)
	holds(t, b, "\x00\xff\xff\xff\xff\xff\xff\xff\xff\x08")
	answers(t, "Put(1, 1)", b.Put(1, 1), api.OK)
	holds(t, b, "\x00\xff\xff\xff\xff\xff\xff\xff\xff\x08\x01")
}

// 1.8
func TestPatchRefuses(t *testing.T) {
	b := builder(t, 8)
	b.Bytes([]byte("abc"))
	for _, at := range []int{0, -1, 9} {
		for _, n := range []int{0, 9, -1, math.MinInt, math.MaxInt} {
			answers(t, "Patch of no number", b.Patch(at, n, math.MaxUint64), api.ErrArg)
		}
		for n := 1; n <= 7; n++ {
			answers(t, "Patch above its width", b.Patch(at, n, 1<<(8*n)), api.ErrValue)
		}
	}
	for _, at := range []int{-1, 3, 4, 8, math.MinInt, math.MaxInt} {
		answers(t, "Patch beside the bytes", b.Patch(at, 1, 1), api.ErrOut)
		answers(t, "Patch beside the bytes", b.Patch(at, 8, 1), api.ErrOut)
	}
	answers(t, "Patch(2, 2, 1)", b.Patch(2, 2, 1), api.ErrOut)
	answers(t, "Patch(0, 4, 1)", b.Patch(0, 4, 1), api.ErrOut)
	answers(t, "Patch of nothing", builder(t, 8).Patch(0, 1, 1), api.ErrOut)
	holds(t, b, "abc")
}

// 1.9
func TestDoneIsNewMemoryAndTheBuilderGoesOn(t *testing.T) {
	b := builder(t, 100)
	b.Put(2, 258)
	first := b.Done()
	second := b.Done()
	scribble(first)
	if string(second) != "\x01\x02" {
		t.Errorf("two answers share memory: %x", second)
	}
	holds(t, b, "\x01\x02")
	answers(t, "Put behind Done", b.Put(1, 3), api.OK)
	answers(t, "Patch behind Done", b.Patch(0, 1, 7), api.OK)
	if string(second) != "\x01\x02" {
		t.Errorf("an answer changes later: %x", second)
	}
	_ = append(second, 99)
	holds(t, b, "\x07\x02\x03")
}

// 1.12
func TestWhatWasPutInDoesNotChange(t *testing.T) {
	b := builder(t, 100)
	whole := []byte("abcd")
	parts := [][]byte{whole[:2], []byte("xy")}
	answers(t, "Bytes", b.Bytes(parts...), api.OK)
	answers(t, "Put", b.Put(8, 0), api.OK)
	answers(t, "Patch", b.Patch(0, 1, 'z'), api.OK)
	if string(whole) != "abcd" || string(parts[0]) != "ab" || string(parts[1]) != "xy" {
		t.Errorf("the caller's bytes are %q and %q now", whole, parts)
	}
	scribble(whole)
	parts[1][0] = 'q'
	parts[0] = nil
	holds(t, b, "zbxy\x00\x00\x00\x00\x00\x00\x00\x00")
}

// 1.12
func TestTwoBuildersHaveNothingInCommon(t *testing.T) {
	a, b := builder(t, 2), builder(t, 4)
	part := []byte("ab")
	a.Bytes(part)
	b.Bytes(part)
	b.Bytes(part)
	a.Patch(0, 1, 'z')
	holds(t, a, "zb")
	holds(t, b, "abab")
	answers(t, "the full one", a.Put(1, 0), api.ErrBuilt)
}

// 1.12: a builder is what was put into it, however it was put together.
func TestBuildersOfTheSameBytesAreAlike(t *testing.T) {
	for _, n := range []int{1, 2, 4, 8} {
		b := builder(t, 64)
		want := slices.Repeat([]byte{0xa5}, 64)
		for range 64 / n {
			b.Put(n, 0xa5a5a5a5a5a5a5a5>>(64-8*n))
		}
		if !bytes.Equal(b.Done(), want) {
			t.Errorf("of numbers of %d bytes: %x", n, b.Done())
		}
	}
}
