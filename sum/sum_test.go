package sum_test

import (
	"bytes"
	"math/rand"
	"slices"
	"testing"

	"weir/sum"
)

// plain reckons the sum by another way: ones' complement words add up as numbers modulo 65535 do, but for the two zeros.
func plain(b []byte) int {
	n, any := 0, false
	for i, x := range b {
		v := int(x)
		if i%2 == 0 {
			v <<= 8
		}
		n = (n + v) % 65535
		any = any || x != 0
	}
	if n == 0 && any {
		return 65535
	}
	return n
}

// someBytes is of a kind that reaches the edges often: zeros, all bits, any.
func someBytes(r *rand.Rand, n int) []byte {
	b := make([]byte, n)
	kind := r.Intn(4)
	for i := range b {
		switch {
		case kind == 0:
		case kind == 1:
			b[i] = 0xff
		case kind == 2:
			b[i] = byte(r.Intn(2)) * 0xff
		default:
			b[i] = byte(r.Intn(256))
		}
	}
	return b
}

// cuts are the parts of b, some of them empty.
func cuts(r *rand.Rand, b []byte) [][]byte {
	var parts [][]byte
	for len(b) > 0 {
		n := r.Intn(min(len(b), 5) + 1)
		parts = append(parts, b[:n])
		b = b[n:]
	}
	return append(parts, nil)
}

func setWord(b []byte, at, w int) { b[at], b[at+1] = byte(w>>8), byte(w) }

func wordAt(b []byte, at int) int { return int(b[at])<<8 | int(b[at+1]) }

// 2.1
func TestSum(t *testing.T) {
	b := []byte{0x00, 0x01, 0xf2, 0x03, 0xf4, 0xf5, 0xf6, 0xf7}
	rows := []struct {
		parts [][]byte
		want  int
	}{
		{nil, 0}, {[][]byte{nil}, 0}, {[][]byte{{}, nil, {}}, 0}, {[][]byte{{0}}, 0}, {[][]byte{{0, 0}, {0}}, 0},
		{[][]byte{{1}}, 0x0100}, {[][]byte{{0, 1}}, 0x0001}, {[][]byte{{0x12, 0x34}}, 0x1234}, {[][]byte{{0xff}}, 0xff00},
		{[][]byte{b}, 0xddf2}, {[][]byte{b[:3], b[3:]}, 0xddf2}, {[][]byte{b[:1], nil, b[1:2], {}, b[2:7], b[7:]}, 0xddf2},
		{[][]byte{b[:7]}, 0xdcfb}, {[][]byte{b[:3], b[3:7]}, 0xdcfb},
		{[][]byte{{1}, {2}}, 0x0102}, {[][]byte{{1}, nil, {2}}, 0x0102}, {[][]byte{{1}, {2}, {3}}, 0x0402}, {[][]byte{{1}, {2, 3}}, 0x0402},
		{[][]byte{{1}, {2, 3}, {4, 5}, {6}}, 0x090c}, {[][]byte{{1, 2, 3}, {4, 5, 6}}, 0x090c},
		{[][]byte{{0xff, 0xff}}, 0xffff}, {[][]byte{{0xff}, {0xff}}, 0xffff}, {[][]byte{{0xff, 0xff}, {0xff, 0xff}}, 0xffff},
		{[][]byte{{0xff, 0xff}, {0, 1}}, 1}, {[][]byte{{0xff, 0xfe}, {0, 1}}, 0xffff}, {[][]byte{{0xff, 0xff, 0xff, 0xff, 0, 1}}, 1},
		{[][]byte{{0x80, 0, 0x80, 0}}, 1}, {[][]byte{{0x80, 0, 0x7f, 0xff}}, 0xffff},
	}
	for _, r := range rows {
		if got := sum.Sum(r.parts...); got != r.want {
			t.Errorf("Sum(%x) = %#x, want %#x", r.parts, got, r.want)
		}
	}
}

// 2.1: a sum that 16, or 32, bits do not hold before it is folded.
func TestSumOfManyBytes(t *testing.T) {
	for _, n := range []int{65534, 65535, 65536, 131072, 131074, 140001, 300000} {
		b := bytes.Repeat([]byte{0xff}, n)
		if got := sum.Sum(b); got != plain(b) {
			t.Errorf("%d times ff: %#x, want %#x", n, got, plain(b))
		}
		b[n/2&^1], b[n/2&^1+1] = 0x12, 0x34
		if got := sum.Sum(b[:n/3], b[n/3:]); got != plain(b) {
			t.Errorf("%d bytes: %#x, want %#x", n, got, plain(b))
		}
	}
}

// 2.1
func TestSumIsThatOfAllBytes(t *testing.T) {
	r := rand.New(rand.NewSource(1))
	for range 3000 {
		b := someBytes(r, r.Intn(60))
		if got := sum.Sum(b); got != plain(b) {
			t.Fatalf("Sum(%x) = %#x, want %#x", b, got, plain(b))
		}
	}
}

// 2.2
func TestCheck(t *testing.T) {
	b := []byte{0x00, 0x01, 0xf2, 0x03, 0xf4, 0xf5, 0xf6, 0xf7}
	rows := []struct {
		parts [][]byte
		want  int
	}{
		{[][]byte{b}, 0x220d}, {[][]byte{b[:3], b[3:]}, 0x220d}, {nil, 0xffff}, {[][]byte{{0, 0}}, 0xffff}, {[][]byte{{0xff, 0xff}}, 0}, {[][]byte{{1}}, 0xfeff}, {[][]byte{{1}, {2, 3}}, 0xfbfd},
	}
	for _, r := range rows {
		if got := sum.Check(r.parts...); got != r.want {
			t.Errorf("Check(%x) = %#x, want %#x", r.parts, got, r.want)
		}
	}
	r := rand.New(rand.NewSource(2))
	for range 1000 {
		parts := cuts(r, someBytes(r, r.Intn(40)))
		if got := sum.Check(parts...); got != 65535-sum.Sum(parts...) {
			t.Fatalf("Check(%x) = %#x", parts, got)
		}
	}
}

// 2.3
func TestGood(t *testing.T) {
	b := []byte{0x00, 0x01, 0xf2, 0x03, 0xf4, 0xf5, 0xf6, 0xf7}
	rows := []struct {
		parts [][]byte
		want  bool
	}{
		{[][]byte{b, {0x22, 0x0d}}, true}, {[][]byte{b[:5], b[5:], {0x22}, {0x0d}}, true}, {[][]byte{b, {0x22, 0x0e}}, false}, {[][]byte{b, {0x22, 0x0c}}, false}, {[][]byte{b}, false},
		{nil, false}, {[][]byte{{0, 0}}, false}, {[][]byte{{0xff, 0xff}}, true}, {[][]byte{{0xff, 0xff}, {0, 0}}, true}, {[][]byte{{0xff}, {0xff}}, true}, {[][]byte{{0xff}}, false},
		{[][]byte{{0xff, 0xff, 0xff, 0xff}}, true}, {[][]byte{{0xff, 0xfe}}, false}, {[][]byte{{0xff, 0xff}, {0, 1}}, false},
	}
	for _, r := range rows {
		if got := sum.Good(r.parts...); got != r.want {
			t.Errorf("Good(%x) = %t", r.parts, got)
		}
	}
}

// 2.7
func TestBytesWithTheirSumAreGoodAndTellEachBit(t *testing.T) {
	r := rand.New(rand.NewSource(3))
	for range 300 {
		b := someBytes(r, 2+r.Intn(30))
		at := r.Intn(len(b)/2) * 2
		setWord(b, at, 0)
		setWord(b, at, sum.Check(b))
		if !sum.Good(b) || !sum.Good(cuts(r, b)...) {
			t.Fatalf("%x, its sum at %d, is not good", b, at)
		}
		for bit := range len(b) * 8 {
			b[bit/8] ^= 1 << (bit % 8)
			if sum.Good(b) || sum.Good(cuts(r, b)...) {
				t.Fatalf("%x, bit %d turned over, is good", b, bit)
			}
			b[bit/8] ^= 1 << (bit % 8)
		}
	}
}

// 2.9
func TestHowBytesAreCutDoesNotMatter(t *testing.T) {
	r := rand.New(rand.NewSource(4))
	for range 2000 {
		b := someBytes(r, r.Intn(50))
		parts := cuts(r, b)
		if sum.Sum(parts...) != sum.Sum(b) || sum.Check(parts...) != sum.Check(b) || sum.Good(parts...) != sum.Good(b) {
			t.Fatalf("%x cut as %x: %#x, %#x", b, parts, sum.Sum(parts...), sum.Sum(b))
		}
	}
}

// 2.9
func TestOrderOfEvenPartsDoesNotMatter(t *testing.T) {
	r := rand.New(rand.NewSource(5))
	for range 1000 {
		var parts [][]byte
		for range r.Intn(6) {
			parts = append(parts, someBytes(r, r.Intn(8)*2))
		}
		want := sum.Sum(parts...)
		r.Shuffle(len(parts), func(i, j int) { parts[i], parts[j] = parts[j], parts[i] })
		if got := sum.Sum(parts...); got != want {
			t.Fatalf("%x: %#x, want %#x", parts, got, want)
		}
	}
}

// 2.9
func TestExchangedHalvesExchangeTheSum(t *testing.T) {
	r := rand.New(rand.NewSource(6))
	for range 1000 {
		b := someBytes(r, r.Intn(30)*2)
		c := slices.Clone(b)
		for i := 0; i < len(c); i += 2 {
			c[i], c[i+1] = c[i+1], c[i]
		}
		s := sum.Sum(b)
		if got := sum.Sum(c); got != s>>8|s&0xff<<8 {
			t.Fatalf("%x: %#x, exchanged %#x", b, s, got)
		}
	}
}

// 2.10
func TestTwoZeros(t *testing.T) {
	r := rand.New(rand.NewSource(7))
	for range 1000 {
		b := someBytes(r, 4+r.Intn(30))
		at := r.Intn(len(b)/2) * 2
		setWord(b, at, 0)
		other := (at + 2) % (len(b) &^ 1) // a word that makes the right sum 0
		setWord(b, other, 0)
		setWord(b, other, sum.Check(b))
		if !sum.Good(b) {
			t.Fatalf("%x is not good with a sum of 0", b)
		}
		setWord(b, at, 65535)
		if !sum.Good(b) {
			t.Fatalf("%x is not good with 65535 in place of 0", b)
		}
		setWord(b, at, 0)
		if sum.Check(b) != 0 {
			t.Fatalf("Check(%x) = %#x, not the zero that is written", b, sum.Check(b))
		}
	}
	if b := []byte{0, 0, 0xff, 0xff, 0}; !sum.Good(b) || sum.Good(make([]byte, 5)) {
		t.Error("bytes that are all 0 but for the sum")
	}
}

// 2.11
func TestSumLeavesItsPartsAlone(t *testing.T) {
	room := []byte{1, 2, 3, 4, 5, 6, 7, 8, 9}
	was := slices.Clone(room)
	parts := [][]byte{room[0:3], room[1:2], nil, room[4:7], room}
	all := slices.Clone(parts)
	first := sum.Sum(parts[:4]...)
	for range 3 {
		if sum.Sum(parts[:4]...) != first || sum.Check(parts[:4]...) != 65535-first || sum.Good(parts[:4]...) {
			t.Error("another answer than before")
		}
	}
	if !bytes.Equal(room, was) {
		t.Errorf("the parts are changed: %v", room)
	}
	for i, p := range parts {
		if !bytes.Equal(p, all[i]) || len(p) != len(all[i]) {
			t.Errorf("part %d is another: %v", i, p)
		}
	}
}
