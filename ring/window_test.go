package ring_test

import (
	"bytes"
	"testing"

	"weir/api"
)

// 3.4, 3.5, 3.6: a window's capacity is its length, and what is appended to it goes elsewhere.
func TestAppendGoesElsewhere(t *testing.T) {
	p := port(t, 1, 1, 2, 64)
	p.Refill(1)
	p.Arrive([]byte("abcdef"))
	frame := wantPoll(t, p, 0, "abcdef")
	whole, _ := p.Buffer(0)
	taken := wantTake(t, p, 1, 64)
	for _, w := range [][]byte{frame, whole, taken} {
		if cap(w) != len(w) {
			t.Errorf("a window of %d bytes has the capacity %d", len(w), cap(w))
		}
		_ = append(w, bytes.Repeat([]byte("#"), 100)...)
	}
	again, _ := p.Buffer(0)
	other, _ := p.Buffer(1)
	if string(again) != "abcdef"+string(make([]byte, 58)) || !bytes.Equal(other, make([]byte, 64)) {
		t.Errorf("an append wrote into the buffers: %q, %q", again, other)
	}
}

// 3.4: the window of a frame without a byte has no room for one.
func TestWindowOfNothing(t *testing.T) {
	p := port(t, 1, 1, 1, 64)
	p.Refill(1)
	p.Arrive([]byte{})
	w := wantPoll(t, p, 0, "")
	if cap(w) != 0 {
		t.Errorf("its capacity is %d", cap(w))
	}
}

// A window stays joined to its buffer, wherever the buffer has gone: free, posted, filled, held again, queued.
func TestWindowsStayJoined(t *testing.T) {
	p := port(t, 1, 1, 1, 64)
	first := wantTake(t, p, 0, 64)
	p.Release(0)
	first[9] = '9'
	p.Refill(1)
	first[8] = '8'
	p.Arrive([]byte("abc"))
	if string(first[:3]) != "abc" {
		t.Errorf("the frame is not seen by an older window: %q", first[:3])
	}
	first[1] = 'B'
	second := wantPoll(t, p, 0, "aBc")
	second[2] = 'C'
	third, _ := p.Buffer(0)
	if string(third[:10]) != "aBC\x00\x00\x00\x00\x0089" || string(first[:3]) != "aBC" {
		t.Errorf("windows of one buffer: %q, %q", third[:10], first[:3])
	}
	wantErrno(t, "Send", p.Send(0, 10), api.OK)
	first[4] = '4'
	third[5] = '5'
	second[0] = 'A'
	wantDrain(t, p, "ABC\x0045\x00\x0089")
}

// A frame that is handed in may itself be a window of the port.
func TestArriveOfAWindow(t *testing.T) {
	p := port(t, 1, 1, 1, 64)
	w := wantTake(t, p, 0, 64)
	copy(w, "abcdef")
	p.Release(0)
	p.Refill(1)
	wantErrno(t, "Arrive", p.Arrive(w[2:6]), api.OK)
	wantPoll(t, p, 0, "cdef")
}
