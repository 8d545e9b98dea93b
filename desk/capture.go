package desk

import (
	"bytes"

	"weir/api"
)

const (
	captureMark = "WEIRCAP1"
	frameHead   = 8 // bytes ahead of a frame's own
	outByte     = 5 // where among them it stands whether the frame went out
	maxTick     = 1<<32 - 1
	maxPort     = 255
)

// ReadCapture reads a capture, or tells where it is none.
func ReadCapture(b []byte) ([]api.Capture, api.Errno, int) {
	if !bytes.HasPrefix(b, []byte(captureMark)) {
		return nil, api.ErrCapture, 0
	}
	var l []api.Capture
	for at := len(captureMark); at < len(b); {
		c, size, wrong := readFrame(b[at:])
		if size == 0 {
			return nil, api.ErrCapture, at + wrong
		}
		l = append(l, c)
		at += size
	}
	return l, api.OK, 0
}

// readFrame reads the first frame, and tells of how many bytes it is; of 0: the place tells where it is wrong.
func readFrame(b []byte) (c api.Capture, size, place int) {
	if len(b) < frameHead {
		return api.Capture{}, 0, 0
	}
	if b[outByte] > 1 {
		return api.Capture{}, 0, outByte
	}
	size = frameHead + int(highFirst(b[6:8]))
	if len(b) < size {
		return api.Capture{}, 0, 0
	}
	return api.Capture{
		Tick: int(highFirst(b[:4])),
		Port: int(b[4]),
		Out:  b[outByte] == 1,
		Data: bytes.Clone(b[frameHead:size]),
	}, size, 0
}

// highFirst is the number that a few bytes are.
func highFirst(b []byte) uint64 {
	var n uint64
	for _, v := range b {
		n = n<<8 | uint64(v)
	}
	return n
}

// WriteCapture writes a capture.
func WriteCapture(l ...api.Capture) ([]byte, api.Errno) {
	b := []byte(captureMark)
	for _, c := range l {
		if c.Tick < 0 || c.Tick > maxTick || c.Port < 0 || c.Port > maxPort {
			return nil, api.ErrArg
		}
		if len(c.Data) > api.MaxBytes {
			return nil, api.ErrLong
		}
		b = append(b, frameHeadOf(c)...)
		b = append(b, c.Data...)
	}
	return b, api.OK
}

// frameHeadOf is what stands ahead of a frame's own bytes.
func frameHeadOf(c api.Capture) []byte {
	var out byte
	if c.Out {
		out = 1
	}
	t, n := c.Tick, len(c.Data)
	return []byte{byte(t >> 24), byte(t >> 16), byte(t >> 8), byte(t), byte(c.Port), out, byte(n >> 8), byte(n)}
}
