package ring_test

import (
	"bytes"
	"math"
	"slices"
	"testing"

	"weir/api"
	"weir/ring"
)

func port(t *testing.T, rx, tx, pool, size int) *ring.Port {
	t.Helper()
	p, e := ring.New(rx, tx, pool, size)
	if p == nil || e != api.OK {
		t.Fatalf("New(%d, %d, %d, %d) = %v, %d", rx, tx, pool, size, p, e)
	}
	return p
}

func wantErrno(t *testing.T, what string, got, want api.Errno) {
	t.Helper()
	if got != want {
		t.Errorf("%s: %d, want %d", what, got, want)
	}
}

func wantPlaces(t *testing.T, p *ring.Port, want ...int) {
	t.Helper()
	if got := p.Places(); !slices.Equal(got, want) {
		t.Errorf("Places() = %v, want %v", got, want)
	}
}

func wantPoll(t *testing.T, p *ring.Port, number int, frame string) []byte {
	t.Helper()
	i, w, ok := p.Poll()
	if i != number || string(w) != frame || !ok {
		t.Errorf("Poll() = %d, %q, %v, want %d, %q, true", i, w, ok, number, frame)
	}
	return w
}

func wantNoPoll(t *testing.T, p *ring.Port) {
	t.Helper()
	if i, w, ok := p.Poll(); i != 0 || len(w) != 0 || ok {
		t.Errorf("Poll() = %d, %q, %v, want nothing", i, w, ok)
	}
}

func wantTake(t *testing.T, p *ring.Port, number, size int) []byte {
	t.Helper()
	i, w, e := p.Take()
	if i != number || e != api.OK || !bytes.Equal(w, make([]byte, size)) {
		t.Errorf("Take() = %d, %x, %d, want %d and %d zeros", i, w, e, number, size)
	}
	return w
}

func wantNoTake(t *testing.T, p *ring.Port) {
	t.Helper()
	if i, w, e := p.Take(); i != 0 || len(w) != 0 || e != api.ErrPool {
		t.Errorf("Take() = %d, %x, %d, want ErrPool", i, w, e)
	}
}

func wantDrain(t *testing.T, p *ring.Port, frame string) []byte {
	t.Helper()
	b, ok := p.Drain()
	if string(b) != frame || !ok {
		t.Errorf("Drain() = %q, %v, want %q, true", b, ok, frame)
	}
	return b
}

func wantNoDrain(t *testing.T, p *ring.Port) {
	t.Helper()
	if b, ok := p.Drain(); len(b) != 0 || ok {
		t.Errorf("Drain() = %q, %v, want nothing", b, ok)
	}
}

func wantNoBuffer(t *testing.T, p *ring.Port, i int, want api.Errno) {
	t.Helper()
	if w, e := p.Buffer(i); len(w) != 0 || e != want {
		t.Errorf("Buffer(%d) = %x, %d, want %d", i, w, e, want)
	}
}

// 3.1
func TestNewBounds(t *testing.T) {
	good := [4]int{2, 3, 4, 100}
	bounds := [4][2]int{{1, 4096}, {1, 4096}, {1, 8192}, {64, 65535}}
	for at, b := range bounds {
		for _, v := range []int{b[0], b[1]} {
			a := good
			a[at] = v
			port(t, a[0], a[1], a[2], a[3])
		}
		for _, v := range []int{b[0] - 1, b[1] + 1, -1, math.MinInt, math.MaxInt} {
			a := good
			a[at] = v
			if p, e := ring.New(a[0], a[1], a[2], a[3]); p != nil || e != api.ErrArg {
				t.Errorf("New%v = %v, %d, want nil, ErrArg", a, p, e)
			}
		}
	}
}

// 3.1
func TestTheGreatestPort(t *testing.T) {
	p := port(t, api.MaxRing, api.MaxRing, api.MaxPool, api.MaxBytes)
	if n := p.Refill(math.MaxInt); n != api.MaxRing {
		t.Errorf("Refill posts %d", n)
	}
	if s := p.Stat(); s != (api.RingStat{Free: api.MaxPool - api.MaxRing, Posted: api.MaxRing}) {
		t.Errorf("Stat() = %+v", s)
	}
	long := bytes.Repeat([]byte("y"), api.MaxBytes)
	wantErrno(t, "Arrive", p.Arrive(long), api.OK)
	wantPoll(t, p, 0, string(long))
	wantErrno(t, "Send", p.Send(0, api.MaxBytes), api.OK)
	wantDrain(t, p, string(long))
}

// 3.1
func TestPortsHaveNothingInCommon(t *testing.T) {
	p, q := port(t, 1, 1, 2, 64), port(t, 1, 1, 2, 64)
	w := wantTake(t, p, 0, 64)
	w[0] = 'p'
	wantPlaces(t, q, 1, 1)
	wantTake(t, q, 0, 64)
	q.Refill(1)
	wantPlaces(t, p, 4, 1)
}

// 3.1: a new port's buffers are free in the order of their numbers, and hold zeros.
func TestANewPort(t *testing.T) {
	p := port(t, 4, 4, 5, 70)
	wantPlaces(t, p, 1, 1, 1, 1, 1)
	if s := p.Stat(); s != (api.RingStat{Free: 5}) {
		t.Errorf("Stat() = %+v", s)
	}
	p.Refill(4)
	for i := range 4 {
		wantErrno(t, "Arrive", p.Arrive(nil), api.OK)
		wantPoll(t, p, i, "")
		if w, e := p.Buffer(i); e != api.OK || !bytes.Equal(w, make([]byte, 70)) {
			t.Errorf("Buffer(%d) = %x, %d, want zeros", i, w, e)
		}
	}
	wantErrno(t, "Send", p.Send(3, 70), api.OK)
	wantDrain(t, p, string(make([]byte, 70)))
}

// 3.2
func TestRefill(t *testing.T) {
	p := port(t, 3, 1, 5, 64)
	for _, n := range []int{0, -1, math.MinInt} {
		if got := p.Refill(n); got != 0 {
			t.Errorf("Refill(%d) = %d", n, got)
		}
	}
	wantPlaces(t, p, 1, 1, 1, 1, 1)
	if n := p.Refill(1); n != 1 {
		t.Errorf("Refill(1) = %d", n)
	}
	wantPlaces(t, p, 2, 1, 1, 1, 1)
	if n := p.Refill(math.MaxInt); n != 2 {
		t.Errorf("the RX ring has places for two more, %d were posted", n)
	}
	wantPlaces(t, p, 2, 2, 2, 1, 1)
	p.Arrive([]byte("a"))
	if n := p.Refill(1); n != 0 {
		t.Errorf("a filled buffer takes a place, but %d were posted", n)
	}
	p.Poll()
	if n := p.Refill(9); n != 1 {
		t.Errorf("a polled buffer leaves its place, but %d were posted", n)
	}
	wantPlaces(t, p, 4, 2, 2, 2, 1)
}

// 3.2: until none is free.
func TestRefillOfAnEmptyPool(t *testing.T) {
	p := port(t, 9, 1, 3, 64)
	p.Take()
	if n := p.Refill(9); n != 2 {
		t.Errorf("Refill(9) = %d, want 2", n)
	}
	if n := p.Refill(1); n != 0 {
		t.Errorf("Refill(1) = %d, want 0", n)
	}
	wantPlaces(t, p, 4, 2, 2)
}

// 3.2, 3.7, 3.9: what joined the free ones first leaves them first.
func TestTheLineOfFreeOnes(t *testing.T) {
	p := port(t, 4, 4, 4, 64)
	for i := range 4 {
		wantTake(t, p, i, 64)
	}
	p.Release(2)
	p.Send(3, 0)
	p.Send(0, 0)
	wantDrain(t, p, "")
	p.Release(1)
	wantDrain(t, p, "")
	for _, i := range []int{2, 3, 1, 0} {
		wantTake(t, p, i, 64)
	}
	p.Release(3)
	p.Release(0)
	p.Refill(2)
	p.Arrive([]byte("first"))
	wantPoll(t, p, 3, "first")
	p.Arrive([]byte("second"))
	wantPoll(t, p, 0, "second")
}

// 3.3
func TestArriveRefusals(t *testing.T) {
	p := port(t, 1, 1, 1, 64)
	none := p.Places()
	wantErrno(t, "65536 bytes", p.Arrive(make([]byte, 65536)), api.ErrLong)
	wantErrno(t, "65535 bytes", p.Arrive(make([]byte, 65535)), api.ErrBig)
	wantErrno(t, "65 bytes", p.Arrive(make([]byte, 65)), api.ErrBig)
	wantErrno(t, "64 bytes", p.Arrive(make([]byte, 64)), api.ErrRxFull)
	wantErrno(t, "no bytes", p.Arrive(nil), api.ErrRxFull)
	wantPlaces(t, p, none...)
	p.Refill(1)
	wantErrno(t, "65536 bytes", p.Arrive(make([]byte, 65536)), api.ErrLong)
	wantErrno(t, "65 bytes", p.Arrive(make([]byte, 65)), api.ErrBig)
	wantPlaces(t, p, 2)
	wantErrno(t, "64 bytes", p.Arrive(make([]byte, 64)), api.OK)
	wantErrno(t, "none posted", p.Arrive(nil), api.ErrRxFull)
	wantPlaces(t, p, 3)
}

// 3.3: a buffer of the greatest size knows no ErrBig.
func TestArriveOfTheGreatest(t *testing.T) {
	p := port(t, 1, 1, 1, api.MaxBytes)
	p.Refill(1)
	wantErrno(t, "65536 bytes", p.Arrive(make([]byte, 65536)), api.ErrLong)
	wantErrno(t, "65535 bytes", p.Arrive(make([]byte, 65535)), api.OK)
}

// 3.3, 3.4
func TestArriveAndPollInOrder(t *testing.T) {
	p := port(t, 3, 1, 3, 64)
	wantNoPoll(t, p)
	p.Refill(3)
	wantNoPoll(t, p)
	for _, f := range []string{"one", "", "three"} {
		wantErrno(t, f, p.Arrive([]byte(f)), api.OK)
	}
	wantPlaces(t, p, 3, 3, 3)
	wantPoll(t, p, 0, "one")
	wantPlaces(t, p, 4, 3, 3)
	wantPoll(t, p, 1, "")
	wantPoll(t, p, 2, "three")
	wantPlaces(t, p, 4, 4, 4)
	wantNoPoll(t, p)
}

// 3.3: the bytes behind a frame stay.
func TestWhatIsBehindAFrameStays(t *testing.T) {
	p := port(t, 1, 1, 1, 64)
	p.Refill(1)
	p.Arrive(bytes.Repeat([]byte("x"), 64))
	wantPoll(t, p, 0, string(bytes.Repeat([]byte("x"), 64)))
	p.Release(0)
	p.Refill(1)
	p.Arrive([]byte("abc"))
	wantPoll(t, p, 0, "abc")
	w, _ := p.Buffer(0)
	if want := "abc" + string(bytes.Repeat([]byte("x"), 61)); string(w) != want {
		t.Errorf("Buffer(0) = %q, want %q", w, want)
	}
}

// 3.3, 3.11: what is handed in is neither changed nor kept.
func TestArriveKeepsNothing(t *testing.T) {
	p := port(t, 1, 1, 1, 64)
	p.Refill(1)
	room := []byte("abcdef")
	p.Arrive(room[:3])
	if string(room) != "abcdef" {
		t.Errorf("the frame handed in is now %q", room)
	}
	room[0] = 'z'
	w := wantPoll(t, p, 0, "abc")
	w[1] = 'y'
	if string(room) != "zbcdef" {
		t.Errorf("the frame handed in is now %q", room)
	}
}

// 3.5, 3.14
func TestTakeWipes(t *testing.T) {
	p := port(t, 2, 2, 2, 64)
	p.Refill(2)
	p.Arrive(bytes.Repeat([]byte("s"), 64))
	old := wantPoll(t, p, 0, string(bytes.Repeat([]byte("s"), 64)))
	wantNoTake(t, p)
	wantPlaces(t, p, 4, 2)
	p.Send(0, 1)
	p.Drain()
	old[63] = '!'
	w := wantTake(t, p, 0, 64)
	if !bytes.Equal(old, make([]byte, 64)) {
		t.Errorf("an older window shows %q", old)
	}
	wantPlaces(t, p, 4, 2)
	wantNoTake(t, p)
	w[5] = 'w'
	p.Release(0)
	wantTake(t, p, 0, 64)
}

// 3.6, 3.7, 3.8: numbers that are none.
func TestNoSuchBuffer(t *testing.T) {
	p := port(t, 2, 1, 3, 64)
	for range 3 {
		p.Take()
	}
	for _, i := range []int{-1, 3, math.MinInt, math.MaxInt} {
		wantNoBuffer(t, p, i, api.ErrArg)
		wantErrno(t, "Release", p.Release(i), api.ErrArg)
		wantErrno(t, "Send", p.Send(i, 0), api.ErrArg)
	}
	wantPlaces(t, p, 4, 4, 4)
}

// 3.6, 3.7, 3.8: a buffer at each of the four places where nobody holds it.
func TestNotHeld(t *testing.T) {
	p := port(t, 2, 1, 4, 64)
	p.Refill(2)
	p.Arrive([]byte("a"))
	p.Take()
	p.Send(2, 1)
	wantPlaces(t, p, 3, 2, 5, 1)
	for i := range 4 {
		wantNoBuffer(t, p, i, api.ErrNotHeld)
		wantErrno(t, "Release", p.Release(i), api.ErrNotHeld)
		wantErrno(t, "Send", p.Send(i, 0), api.ErrNotHeld)
		wantErrno(t, "Send", p.Send(i, 65), api.ErrArg)
	}
	wantPlaces(t, p, 3, 2, 5, 1)
}

// 3.6
func TestBuffer(t *testing.T) {
	p := port(t, 1, 1, 2, 64)
	p.Refill(1)
	p.Arrive([]byte("abc"))
	p.Poll()
	before := p.Places()
	w, e := p.Buffer(0)
	if e != api.OK || string(w) != "abc"+string(make([]byte, 61)) || cap(w) != 64 {
		t.Errorf("Buffer(0) = %q, %d of capacity %d", w, e, cap(w))
	}
	wantPlaces(t, p, before...)
}

// 3.7
func TestRelease(t *testing.T) {
	p := port(t, 1, 1, 2, 64)
	p.Take()
	wantErrno(t, "Release", p.Release(0), api.OK)
	wantPlaces(t, p, 1, 1)
	wantErrno(t, "a second Release", p.Release(0), api.ErrNotHeld)
	wantTake(t, p, 1, 64)
	wantTake(t, p, 0, 64)
	wantNoTake(t, p)
}

// 3.8
func TestSend(t *testing.T) {
	p := port(t, 1, 2, 3, 64)
	for range 3 {
		p.Take()
	}
	for _, n := range []int{-1, 65, math.MinInt, math.MaxInt} {
		wantErrno(t, "Send", p.Send(0, n), api.ErrArg)
	}
	wantPlaces(t, p, 4, 4, 4)
	wantErrno(t, "Send", p.Send(1, 64), api.OK)
	wantErrno(t, "Send", p.Send(0, 0), api.OK)
	wantPlaces(t, p, 5, 5, 4)
	wantErrno(t, "no place", p.Send(2, 1), api.ErrTxFull)
	wantErrno(t, "no place, a length that may not be", p.Send(2, -1), api.ErrArg)
	wantErrno(t, "no place, not held", p.Send(0, 1), api.ErrNotHeld)
	wantPlaces(t, p, 5, 5, 4)
	wantDrain(t, p, string(make([]byte, 64)))
	wantErrno(t, "a place", p.Send(2, 1), api.OK)
	wantDrain(t, p, "")
	wantDrain(t, p, "\x00")
}

// 3.9
func TestDrain(t *testing.T) {
	p := port(t, 1, 2, 2, 64)
	wantNoDrain(t, p)
	w := wantTake(t, p, 0, 64)
	copy(w, "abcdef")
	wantNoDrain(t, p)
	p.Send(0, 4)
	w[0] = 'A'
	b := wantDrain(t, p, "Abcd")
	wantPlaces(t, p, 1, 1)
	b[1] = 'B'
	_ = append(b, "EF"...)
	if string(w[:6]) != "Abcdef" {
		t.Errorf("what is written into a drained frame is seen in the buffer: %q", w[:6])
	}
	wantNoDrain(t, p)
}

// 3.10
func TestPlacesIsNewMemory(t *testing.T) {
	p := port(t, 1, 1, 2, 64)
	l := p.Places()
	l[0] = 4
	_ = append(l[:1], 4)
	wantPlaces(t, p, 1, 1)
	wantErrno(t, "Release", p.Release(0), api.ErrNotHeld)
}

// 3.10
func TestStat(t *testing.T) {
	p := port(t, 7, 5, 15, 64)
	p.Refill(7)
	for range 3 {
		p.Arrive(nil)
	}
	for range 5 {
		i, _, _ := p.Take()
		p.Send(i, 0)
	}
	p.Poll()
	p.Take()
	wantPlaces(t, p, 4, 3, 3, 2, 2, 2, 2, 5, 5, 5, 5, 5, 4, 1, 1)
	if s := p.Stat(); s != (api.RingStat{Free: 2, Posted: 4, Filled: 2, Held: 2, Queued: 5}) {
		t.Errorf("Stat() = %+v", s)
	}
}

// The document's examples.
func TestExamples(t *testing.T) {
	p := port(t, 2, 1, 3, 64)
	if s := p.Stat(); s != (api.RingStat{Free: 3}) {
		t.Errorf("Stat() = %+v", s)
	}
	wantErrno(t, "Arrive", p.Arrive([]byte("a")), api.ErrRxFull)
	if n := p.Refill(9); n != 2 {
		t.Errorf("Refill(9) = %d", n)
	}
	wantErrno(t, "Arrive", p.Arrive(make([]byte, 65)), api.ErrBig)
	wantErrno(t, "Arrive", p.Arrive([]byte("abc")), api.OK)
	wantErrno(t, "Arrive", p.Arrive(nil), api.OK)
	wantErrno(t, "Arrive", p.Arrive([]byte("x")), api.ErrRxFull)
	wantPoll(t, p, 0, "abc")[0] = 'z'
	wantTake(t, p, 2, 64)
	wantNoTake(t, p)
	wantErrno(t, "Send", p.Send(0, 3), api.OK)
	wantErrno(t, "Send", p.Send(2, 65), api.ErrArg)
	wantErrno(t, "Send", p.Send(2, 1), api.ErrTxFull)
	wantErrno(t, "Send", p.Send(1, 0), api.ErrNotHeld)
	wantErrno(t, "Release", p.Release(1), api.ErrNotHeld)
	wantErrno(t, "Release", p.Release(3), api.ErrArg)
	wantDrain(t, p, "zbc")
	wantNoDrain(t, p)
	wantPlaces(t, p, 1, 3, 4)
	wantPoll(t, p, 1, "")
	wantErrno(t, "Release", p.Release(1), api.OK)
	if n := p.Refill(1); n != 1 {
		t.Errorf("Refill(1) = %d", n)
	}
	wantPlaces(t, p, 2, 1, 4)
}
