package packet_test

import (
	"bytes"
	"math"
	"math/rand"
	"reflect"
	"runtime"
	"slices"
	"sync"
	"testing"
	"time"

	"weir/api"
	"weir/packet"
)

func someFrames(r *rand.Rand, n int) [][]byte {
	l := make([][]byte, n)
	for i := range l {
		l[i] = someFrame(r)
	}
	return l
}

// wrong says what is not as Parse answers it, frame by frame.
func wrong(frames [][]byte, packets []api.Packet, errnos []api.Errno) bool {
	if len(packets) != len(frames) || len(errnos) != len(frames) {
		return true
	}
	for i, b := range frames {
		if p, e := packet.Parse(b); e != errnos[i] || !reflect.DeepEqual(p, packets[i]) {
			return true
		}
	}
	return false
}

// 10.9: the same for every number of workers, in the order of the frames.
func TestParseAll(t *testing.T) {
	r := rand.New(rand.NewSource(14))
	for _, n := range []int{0, 1, 2, 3, 15, 16, 17, 100, 255, 256} {
		frames := someFrames(r, n)
		for workers := 1; workers <= 16; workers++ {
			packets, errnos, e := packet.ParseAll(workers, frames...)
			if e != api.OK || wrong(frames, packets, errnos) {
				t.Fatalf("ParseAll(%d, %d frames): %d packets, %d errors, %d", workers, n, len(packets), len(errnos), e)
			}
		}
	}
}

// 10.9: wrong numbers; the workers are asked first.
func TestParseAllErrors(t *testing.T) {
	good := writer{}.frame(arp(asIs))
	rows := []struct {
		workers, frames int
		want            api.Errno
	}{
		{0, 0, api.ErrArg}, {17, 0, api.ErrArg}, {0, 1, api.ErrArg}, {17, 1, api.ErrArg}, {-1, 1, api.ErrArg}, {math.MaxInt, 1, api.ErrArg}, {math.MinInt, 1, api.ErrArg}, {0, 257, api.ErrArg}, {17, 257, api.ErrArg},
		{1, 257, api.ErrBatch}, {16, 257, api.ErrBatch}, {1, 100000, api.ErrBatch}, {1, 256, api.OK}, {16, 256, api.OK}, {16, 1, api.OK}, {3, 0, api.OK}, {1, 0, api.OK},
	}
	for _, r := range rows {
		frames := slices.Repeat([][]byte{good}, r.frames)
		packets, errnos, e := packet.ParseAll(r.workers, frames...)
		if e != r.want || e != api.OK && (packets != nil || errnos != nil) || e == api.OK && wrong(frames, packets, errnos) {
			t.Errorf("ParseAll(%d, %d frames): %d packets, %d errors, %d, want %d", r.workers, r.frames, len(packets), len(errnos), e, r.want)
		}
	}
}

// 10.9: frames that are none, each beside good ones; beside each error stands nothing.
func TestParseAllOfNone(t *testing.T) {
	good := writer{}.frame(four(17, 2, asIs))
	packets, errnos, e := packet.ParseAll(4, nil, good, good[:13], make([]byte, 65536), good, []byte{})
	want := []api.Errno{api.ErrRunt, api.OK, api.ErrRunt, api.ErrLong, api.OK, api.ErrRunt}
	if e != api.OK || !slices.Equal(errnos, want) || len(packets) != len(want) {
		t.Fatalf("%v, %d", errnos, e)
	}
	for i, p := range packets {
		if nothing(p) != (want[i] != api.OK) {
			t.Errorf("%d: %+v", i, p)
		}
	}
}

// 10.13: the frames are left, their windows are of each frame's own memory.
func TestParseAllAnswersWindows(t *testing.T) {
	r := rand.New(rand.NewSource(15))
	var parts, wholes, before [][]byte
	for range 64 {
		part, whole := roomyBytes(writer{r}.frame(somePacket(r)))
		parts, wholes, before = append(parts, part), append(wholes, whole), append(before, slices.Clone(whole))
	}
	packets, _, e := packet.ParseAll(8, parts...)
	if e != api.OK || !slices.EqualFunc(wholes, before, bytes.Equal) {
		t.Fatalf("%d, or the frames were changed", e)
	}
	for i := range packets {
		runs := paddingRuns(packets[i])
		for _, l := range byteLists(&packets[i]) {
			isRun := slices.ContainsFunc(runs, func(x []byte) bool { return &x[0] == &l[0] })
			if windowOf(wholes[i], l) == isRun || !isRun && cap(l) != len(l) {
				t.Errorf("frame %d: a list of %d bytes, capacity %d, is no window of it", i, len(l), cap(l))
			}
		}
	}
}

// 10.9, 10.13: calls side by side, over the same frames.
func TestParseAllSideBySide(t *testing.T) {
	frames := someFrames(rand.New(rand.NewSource(16)), 100)
	frames = append(frames, frames...)
	var all sync.WaitGroup
	for workers := 1; workers <= 16; workers++ {
		all.Go(func() {
			packets, errnos, e := packet.ParseAll(workers, frames...)
			if e != api.OK || wrong(frames, packets, errnos) {
				t.Errorf("ParseAll(%d): %d", workers, e)
			}
		})
	}
	all.Wait()
}

// 10.13: no goroutine is left behind a call.
func TestNoneIsLeft(t *testing.T) {
	frames := someFrames(rand.New(rand.NewSource(17)), 256)
	before := runtime.NumGoroutine()
	for workers := 0; workers <= 17; workers++ {
		packet.ParseAll(workers, frames...)
		packet.ParseAll(workers, frames[:3]...)
		packet.ParseAll(workers)
	}
	for range 1000 { // one that has told its end may still be on its way out
		if runtime.NumGoroutine() <= before {
			return
		}
		time.Sleep(time.Millisecond)
	}
	t.Errorf("%d goroutines, ahead of the calls %d", runtime.NumGoroutine(), before)
}

// 10.13: whatever the packets are, each call answers, twice the same, and leaves them.
func TestWildPackets(t *testing.T) {
	r := rand.New(rand.NewSource(18))
	for range 2000 {
		p, kept := roomy(turned(r, somePacket(r), r.Intn(40)))
		for range 2 {
			b, e := packet.Serialise(p)
			c, f := packet.Close(p)
			o, g := packet.Open(p)
			if e != packet.Check(p) || f != e || e != api.OK && (b != nil || !nothing(c)) || g != api.OK && !nothing(o) || !packet.Same(p, p) {
				t.Fatalf("%+v: %x, %d, %+v, %d, %+v, %d", p, b, e, c, f, o, g)
			}
			packet.Tuple(p)
		}
		if !kept() {
			t.Fatalf("%+v was changed", p)
		}
	}
}
