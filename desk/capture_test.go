package desk_test

import (
	"bytes"
	"encoding/binary"
	"reflect"
	"strings"
	"testing"

	"weir/api"
	"weir/desk"
)

const mark = "WEIRCAP1"

func writes(t *testing.T, want string, l ...api.Capture) {
	t.Helper()
	if b, e := desk.WriteCapture(l...); e != api.OK || string(b) != want {
		t.Errorf("WriteCapture(%+v) = %x, %d, want %x", l, b, e, want)
	}
}

func writesNot(t *testing.T, want api.Errno, l ...api.Capture) {
	t.Helper()
	if b, e := desk.WriteCapture(l...); e != want || len(b) != 0 {
		t.Errorf("WriteCapture of %d frames = %d bytes, %d, want %d", len(l), len(b), e, want)
	}
}

// alike tells whether frames are the same, without a byte or with none.
func alike(a, b []api.Capture) bool {
	if len(a) != len(b) {
		return false
	}
	for i := range a {
		x, y := a[i], b[i]
		if !bytes.Equal(x.Data, y.Data) {
			return false
		}
		x.Data, y.Data = nil, nil
		if !reflect.DeepEqual(x, y) {
			return false
		}
	}
	return true
}

func readsCapture(t *testing.T, b string, want ...api.Capture) {
	t.Helper()
	if l, e, place := desk.ReadCapture([]byte(b)); e != api.OK || place != 0 || !alike(l, want) {
		t.Errorf("ReadCapture(%x) = %+v, %d, %d, want %+v", b, l, e, place, want)
	}
}

func refusesCapture(t *testing.T, b string, place int) {
	t.Helper()
	if l, e, p := desk.ReadCapture([]byte(b)); e != api.ErrCapture || p != place || len(l) != 0 {
		t.Errorf("ReadCapture(%.80x) = %d frames, %d, %d, want %d", b, len(l), e, p, place)
	}
}

// 20.8: the bytes of a capture.
func TestCaptureBytes(t *testing.T) {
	for _, c := range []struct {
		bytes string
		l     []api.Capture
	}{
		{"", nil},
		{"\x00\x00\x00\x00\x00\x00\x00\x00", []api.Capture{{}}},
		{"\x00\x00\x00\x01\x02\x01\x00\x01\xff", []api.Capture{{Tick: 1, Port: 2, Out: true, Data: []byte{255}}}},
		{"\x01\x02\x03\x04\xff\x00\x00\x02ab", []api.Capture{{Tick: 0x01020304, Port: 255, Data: []byte("ab")}}},
		{"\xff\xff\xff\xff\x00\x01\x01\x00" + strings.Repeat("z", 256), []api.Capture{{Tick: 1<<32 - 1, Out: true, Data: []byte(strings.Repeat("z", 256))}}},
		{"\x00\x00\x00\x09\x01\x00\xff\xff" + strings.Repeat("y", 65535) + "\x00\x00\x00\x08\x07\x01\x00\x00" + "\x80\x00\x00\x00\x80\x01\x00\x01\x01", []api.Capture{
			{Tick: 9, Port: 1, Data: []byte(strings.Repeat("y", 65535))}, {Tick: 8, Port: 7, Out: true}, {Tick: 1 << 31, Port: 128, Out: true, Data: []byte{1}}}},
	} {
		writes(t, mark+c.bytes, c.l...)
		readsCapture(t, mark+c.bytes, c.l...)
	}
}

// 20.8: what WriteCapture refuses: the first frame that is wrong decides, its numbers first.
func TestWriteRefuses(t *testing.T) {
	long := make([]byte, 65536)
	for _, c := range []api.Capture{{Tick: -1}, {Tick: 1 << 32}, {Tick: -1 << 63}, {Tick: 1<<63 - 1}, {Port: -1}, {Port: 256}, {Port: 1 << 40}, {Tick: -1, Data: long}, {Port: 256, Data: long}} {
		writesNot(t, api.ErrArg, c)
		writesNot(t, api.ErrArg, api.Capture{Tick: 1}, c, api.Capture{Data: long})
		writesNot(t, api.ErrLong, api.Capture{Data: long}, c)
	}
	writesNot(t, api.ErrLong, api.Capture{Data: long})
	writesNot(t, api.ErrLong, api.Capture{}, api.Capture{Tick: 1<<32 - 1, Port: 255, Out: true, Data: long})
}

// 20.8: where bytes are no capture.
func TestReadRefuses(t *testing.T) {
	for i := range len(mark) {
		refusesCapture(t, mark[:i], 0)
		refusesCapture(t, mark[:i]+"x"+mark[i+1:]+"\x00\x00", 0)
	}
	refusesCapture(t, "weircap1", 0)
	refusesCapture(t, " "+mark, 0)
	for _, ahead := range []string{mark, mark + "\x00\x00\x00\x01\x02\x01\x00\x03abc", mark + "\x00\x00\x00\x00\x00\x00\x00\x00\x00\x00\x00\x00\x00\x01\x00\x00"} {
		n := len(ahead)
		frame := "\x00\x00\x00\x01\x02\x01\x00\x05hello"
		for i := 1; i < len(frame); i++ {
			refusesCapture(t, ahead+frame[:i], n)
		}
		for _, out := range []byte{2, 3, 128, 255} {
			wrong := []byte(frame)
			wrong[5] = out
			refusesCapture(t, ahead+string(wrong), n+5)
			refusesCapture(t, ahead+string(wrong[:8]), n+5) // its bytes are cut off, too
			refusesCapture(t, ahead+string(wrong[:7]), n)
			refusesCapture(t, ahead+string(wrong)+"\x00", n+5)
		}
		refusesCapture(t, ahead+frame+"\x00", n+len(frame))
		refusesCapture(t, ahead+"\x00\x00\x00\x00\x00\x00\xff\xff"+strings.Repeat("x", 65534), n)
	}
}

// frames draws frames of a capture.
func (d dice) frames() []api.Capture {
	var l []api.Capture
	for range d.Intn(6) {
		b := make([]byte, pick(d, 0, 1, 60, 255, 256, d.Intn(3000)))
		d.Read(b)
		l = append(l, api.Capture{Tick: pick(d, 0, 1, 255, 256, 1<<32-1, d.Intn(1<<32)), Port: d.Intn(256), Out: d.once(2), Data: b})
	}
	return l
}

// modelReadCapture is a second reading of a capture: the frames, or the place where it is none.
func modelReadCapture(b []byte) ([]api.Capture, int) {
	r := bytes.NewReader(b)
	var head [8]byte
	if n, _ := r.Read(head[:]); n < 8 || string(head[:]) != mark {
		return nil, 0
	}
	var l []api.Capture
	for r.Len() > 0 {
		at := len(b) - r.Len()
		var h struct {
			Tick   uint32
			Port   uint8
			Out    uint8
			Length uint16
		}
		if binary.Read(r, binary.BigEndian, &h) != nil {
			return nil, at
		}
		if h.Out > 1 {
			return nil, at + 5
		}
		if r.Len() < int(h.Length) {
			return nil, at
		}
		data := make([]byte, h.Length)
		r.Read(data)
		l = append(l, api.Capture{Tick: int(h.Tick), Port: int(h.Port), Out: h.Out == 1, Data: data})
	}
	return l, -1
}

// 20.8, 20.9: what is written is read as it was; what is read is written as it stood; and of bytes that were changed ReadCapture tells what a second reading does.
func TestCapturesThereAndBack(t *testing.T) {
	refused := 0
	for seed := range int64(3000) {
		d := rolled(seed)
		l := d.frames()
		b, e := desk.WriteCapture(l...)
		if e != api.OK {
			t.Fatalf("WriteCapture(%+v) = %d", l, e)
		}
		readsCapture(t, string(b), l...)
		for range 5 {
			c := bytes.Clone(b)
			switch d.Intn(3) {
			case 0:
				c = c[:d.Intn(len(c)+1)]
			case 1:
				c[d.Intn(len(c))] ^= 1 << d.Intn(8)
			default:
				c = append(c, byte(d.Intn(3)))
			}
			want, place := modelReadCapture(c)
			if place >= 0 {
				refusesCapture(t, string(c), place)
				refused++
				continue
			}
			readsCapture(t, string(c), want...)
			writes(t, string(c), want...)
		}
		if t.Failed() {
			t.Fatalf("seed %d", seed)
		}
	}
	if refused < 1000 {
		t.Errorf("refused were %d alone", refused)
	}
}
