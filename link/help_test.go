package link_test

import (
	"encoding/binary"
	"math/rand"
	"slices"

	"weir/api"
)

var (
	all = api.Mac{0xff, 0xff, 0xff, 0xff, 0xff, 0xff}
	one = api.Mac{2, 0, 0, 0, 0, 1}
)

// headed is the bytes of a frame from one to all, from the place 12 on these.
func headed(more ...byte) []byte { return slices.Concat(all[:], one[:], more) }

// word is a number of 16 bits as bytes.
func word(v int) []byte { return []byte{byte(v >> 8), byte(v)} }

func frame(kind int, data []byte, tags ...api.Tag) api.Frame {
	return api.Frame{Dst: all, Src: one, Tags: tags, Type: kind, Data: data}
}

func tag(tpid, pcp int, dei bool, vid int) api.Tag {
	return api.Tag{TPID: tpid, PCP: pcp, DEI: dei, VID: vid}
}

func same(a, b api.Frame) bool {
	return a.Dst == b.Dst && a.Src == b.Src && a.Type == b.Type && slices.Equal(a.Tags, b.Tags) && slices.Equal(a.Data, b.Data)
}

// zero tells whether nothing stands in a frame.
func zero(f api.Frame) bool { return same(f, api.Frame{}) && f.Tags == nil && f.Data == nil }

// model reads a frame by another way than the program: first the places of the tags, then what each may be.
func model(b []byte) (api.Frame, api.Errno) {
	switch {
	case len(b) > 65535:
		return api.Frame{}, api.ErrLong
	case len(b) < 14:
		return api.Frame{}, api.ErrRunt
	case b[6]%2 == 1:
		return api.Frame{}, api.ErrSource
	}
	f := api.Frame{Dst: api.Mac(b[:6]), Src: api.Mac(b[6:12])}
	rest := b[12:]
	for {
		kind := binary.BigEndian.Uint16(rest)
		rest = rest[2:]
		if kind != 0x8100 && kind != 0x88a8 {
			if kind < 0x600 {
				return api.Frame{}, api.ErrType
			}
			f.Type, f.Data = int(kind), rest
			return f, api.OK
		}
		if len(f.Tags) == 2 || len(f.Tags) == 1 && kind == 0x88a8 {
			return api.Frame{}, api.ErrTags
		}
		if len(rest) < 4 {
			return api.Frame{}, api.ErrRunt
		}
		v := int(binary.BigEndian.Uint16(rest))
		rest = rest[2:]
		if v%4096 == 4095 {
			return api.Frame{}, api.ErrTag
		}
		f.Tags = append(f.Tags, tag(int(kind), v/8192, v/4096%2 == 1, v%4096))
	}
}

// someBytes are often those of a frame, or near to one.
func someBytes(r *rand.Rand) []byte {
	b := make([]byte, 12)
	r.Read(b)
	if r.Intn(10) > 0 {
		b[6] &^= 1
	}
	for r.Intn(2) == 0 {
		b = append(b, word([]int{0x8100, 0x88a8, 0x9100, 0x8101}[r.Intn(4)])...)
		b = append(b, word([]int{0, 1, 0x0fff, 0x0ffe, 0xffff, 0xefff, r.Intn(65536), r.Intn(65536)}[r.Intn(8)])...)
	}
	b = append(b, word([]int{0x800, 0x806, 0x86dd, 0x5ff, 0x600, 0xffff, 46, r.Intn(65536)}[r.Intn(8)])...)
	data := make([]byte, r.Intn(8))
	r.Read(data)
	b = append(b, data...)
	if r.Intn(4) == 0 {
		b = b[:r.Intn(len(b)+1)]
	}
	return b
}

// someFrame is one that may be.
func someFrame(r *rand.Rand) api.Frame {
	var f api.Frame
	r.Read(f.Dst[:])
	r.Read(f.Src[:])
	f.Src[0] &^= 1
	for i := range r.Intn(3) {
		t := tag(0x8100, r.Intn(8), r.Intn(2) == 0, r.Intn(4095))
		if i == 0 && r.Intn(2) == 0 {
			t.TPID = 0x88a8
		}
		f.Tags = append(f.Tags, t)
	}
	for f.Type = 0x8100; f.Type == 0x8100 || f.Type == 0x88a8; {
		f.Type = 0x600 + r.Intn(0x10000-0x600)
	}
	f.Data = make([]byte, r.Intn(100))
	r.Read(f.Data)
	return f
}

// roomy is b with spare room behind it, and that room with it.
func roomy(b []byte) (part, whole []byte) {
	whole = slices.Concat(b, []byte("the room behind it, which is nobody's but the caller's own: not read and not written into"))
	return whole[:len(b)], whole
}
