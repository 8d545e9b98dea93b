package ip4_test

import (
	"encoding/binary"
	"encoding/hex"
	"math/rand"
	"slices"
	"strings"

	"weir/api"
)

const plain = "45 00 00 16 00 00 00 00 40 11 66 d5 0a 00 00 01 0a 00 00 02 68 69"

func hx(s string) []byte {
	b, err := hex.DecodeString(strings.ReplaceAll(s, " ", ""))
	if err != nil {
		panic(err)
	}
	return b
}

func four(a, b, c, d byte) api.IP { return api.IP{V: 4, A: [16]byte{a, b, c, d}} }

// hi is the datagram of plain.
func hi() api.Ip4 {
	return api.Ip4{TTL: 64, Proto: 17, Src: four(10, 0, 0, 1), Dst: four(10, 0, 0, 2), Data: []byte("hi")}
}

// turned is hi with something changed.
func turned(f func(*api.Ip4)) api.Ip4 {
	h := hi()
	f(&h)
	return h
}

func opt(kind int, data ...byte) api.Opt { return api.Opt{Kind: kind, Data: data} }

func sameOpts(a, b []api.Opt) bool {
	return slices.EqualFunc(a, b, func(x, y api.Opt) bool { return x.Kind == y.Kind && slices.Equal(x.Data, y.Data) })
}

func same(a, b api.Ip4) bool {
	return a.Tos == b.Tos && a.ID == b.ID && a.DF == b.DF && a.MF == b.MF && a.Off == b.Off && a.TTL == b.TTL && a.Proto == b.Proto &&
		a.Src == b.Src && a.Dst == b.Dst && sameOpts(a.Opts, b.Opts) && slices.Equal(a.Data, b.Data)
}

// zero tells whether nothing stands in a datagram.
func zero(h api.Ip4) bool { return same(h, api.Ip4{}) && h.Opts == nil && h.Data == nil }

// modelSum is the right sum of these bytes, whose own field at the place 10 is taken as 0: reckoned as a remainder.
func modelSum(b []byte) int {
	n := 0
	for i := 0; i+1 < len(b); i += 2 {
		if i != 10 {
			n += int(binary.BigEndian.Uint16(b[i:]))
		}
	}
	if n == 0 {
		return 65535
	}
	return (65535 - n%65535) % 65535
}

// summed is b with the sum of its header put right.
func summed(b []byte) []byte {
	n := int(b[0]%16) * 4
	binary.BigEndian.PutUint16(b[10:], uint16(modelSum(b[:n])))
	return b
}

// modelOptions reads options by another way than the program: it goes down what is left.
func modelOptions(b []byte) ([]api.Opt, bool) {
	switch {
	case len(b) > 40:
		return nil, false
	case len(b) == 0 || b[0] == 0:
		return nil, true
	case b[0] == 1:
		return modelOptions(b[1:])
	case len(b) < 2 || b[1] < 2 || int(b[1]) > len(b):
		return nil, false
	}
	l, ok := modelOptions(b[b[1]:])
	if !ok {
		return nil, false
	}
	return append([]api.Opt{opt(int(b[0]), b[2:b[1]]...)}, l...), true
}

// model reads a datagram by another way than the program: each field from its bytes.
func model(b []byte) (api.Ip4, api.Errno) {
	switch {
	case len(b) > 65535:
		return api.Ip4{}, api.ErrLong
	case len(b) < 20:
		return api.Ip4{}, api.ErrIp4Short
	case b[0]/16 != 4:
		return api.Ip4{}, api.ErrIp4Version
	}
	head, total := int(b[0]%16)*4, int(binary.BigEndian.Uint16(b[2:]))
	if head < 20 || head > len(b) {
		return api.Ip4{}, api.ErrIp4Head
	}
	if total < head || total > len(b) {
		return api.Ip4{}, api.ErrIp4Total
	}
	if s := int(binary.BigEndian.Uint16(b[10:])); s%65535 != modelSum(b[:head]) {
		return api.Ip4{}, api.ErrIp4Sum
	}
	l, ok := modelOptions(b[20:head])
	if !ok {
		return api.Ip4{}, api.ErrIp4Option
	}
	part := int(binary.BigEndian.Uint16(b[6:]))
	h := api.Ip4{
		Tos: int(b[1]), ID: int(binary.BigEndian.Uint16(b[4:])), DF: part/0x4000%2 == 1, MF: part/0x2000%2 == 1, Off: part % 0x2000 * 8,
		TTL: int(b[8]), Proto: int(b[9]), Src: four(b[12], b[13], b[14], b[15]), Dst: four(b[16], b[17], b[18], b[19]), Opts: l, Data: b[head:total],
	}
	if h.MF && (total == head || (total-head)%8 > 0) || h.Off+total-head > 65515 {
		return api.Ip4{}, api.ErrIp4Frag
	}
	return h, api.OK
}

// modelBytes are the canonical bytes of a datagram that may be.
func modelBytes(h api.Ip4) []byte {
	var opts []byte
	for _, o := range h.Opts {
		opts = append(append(opts, byte(o.Kind), byte(len(o.Data)+2)), o.Data...)
	}
	for len(opts)%4 > 0 {
		opts = append(opts, 0)
	}
	b := []byte{byte(0x45 + len(opts)/4), byte(h.Tos)}
	b = binary.BigEndian.AppendUint16(b, uint16(20+len(opts)+len(h.Data)))
	b = binary.BigEndian.AppendUint16(b, uint16(h.ID))
	part := h.Off / 8
	if h.DF {
		part += 0x4000
	}
	if h.MF {
		part += 0x2000
	}
	b = binary.BigEndian.AppendUint16(b, uint16(part))
	b = append(b, byte(h.TTL), byte(h.Proto), 0, 0)
	return summed(slices.Concat(b, h.Src.A[:4], h.Dst.A[:4], opts, h.Data))
}

// someOptions are bytes that are often those of options.
func someOptions(r *rand.Rand, n int) []byte {
	var b []byte
	for len(b) < n {
		k := r.Intn(min(n-len(b), 9) + 1)
		switch r.Intn(12) {
		case 0:
			b = append(b, 0)
		case 1, 2:
			b = append(b, 1)
		case 3:
			b = append(b, byte(r.Intn(256)), byte(r.Intn(256)))
		default:
			if k >= 2 {
				b = append(b, byte(2+r.Intn(254)), byte(k))
				b = append(b, make([]byte, k-2)...)
				r.Read(b[len(b)-k+2:])
			}
		}
	}
	return b[:n]
}

// someBytes are often those of a datagram, or near to one.
func someBytes(r *rand.Rand) []byte {
	head := 20
	if r.Intn(2) == 0 {
		head += 4 * r.Intn(11)
	}
	n := 8 * r.Intn(4)
	if r.Intn(3) == 0 {
		n = r.Intn(30)
	}
	b := make([]byte, 20, head+n+10)
	r.Read(b)
	b[0] = 0x40 | byte(head/4)
	binary.BigEndian.PutUint16(b[2:], uint16(head+n))
	if r.Intn(2) == 0 {
		b[6], b[7] = b[6]&0xe0, byte(r.Intn(4))
	} else if r.Intn(2) == 0 {
		b[6], b[7] = b[6]|0x1f, byte(0xf0+r.Intn(16))
	}
	b = append(b, someOptions(r, head-20)...)
	data := make([]byte, n)
	r.Read(data)
	b = append(b, data...)
	for range r.Intn(2) * r.Intn(2) * r.Intn(9) {
		b = append(b, byte(r.Intn(256)))
	}
	switch r.Intn(20) {
	case 0:
		b[0] = byte(r.Intn(256))
	case 1:
		b[0] = 0x40 | byte(r.Intn(16))
	case 2:
		b[2] = byte(r.Intn(2))
		b[3] = byte(r.Intn(256))
	case 3:
		b = b[:r.Intn(len(b)+1)]
	}
	if len(b) >= 20 && int(b[0]%16)*4 <= len(b) && r.Intn(10) > 0 {
		summed(b)
		if b[10]|b[11] == 0 && r.Intn(2) == 0 {
			b[10], b[11] = 0xff, 0xff
		}
	}
	return b
}

// someDatagram is one that may be.
func someDatagram(r *rand.Rand) api.Ip4 {
	h := api.Ip4{Tos: r.Intn(256), ID: r.Intn(65536), DF: r.Intn(2) == 0, MF: r.Intn(2) == 0, TTL: r.Intn(256), Proto: r.Intn(256), Src: four(0, 0, 0, 0), Dst: four(0, 0, 0, 0)}
	r.Read(h.Src.A[:4])
	r.Read(h.Dst.A[:4])
	if r.Intn(2) == 0 {
		h.Off = 8 * r.Intn(8180)
	}
	h.Data = make([]byte, r.Intn(60))
	if h.MF {
		h.Data = make([]byte, 8+8*r.Intn(8))
	}
	r.Read(h.Data)
	for room := r.Intn(41); room >= 2; {
		o := opt(2+r.Intn(254), make([]byte, r.Intn(room-1))...)
		r.Read(o.Data)
		h.Opts = append(h.Opts, o)
		room -= 2 + len(o.Data)
	}
	return h
}

// roomy is b with spare room behind it, and that room with it.
func roomy(b []byte) (part, whole []byte) {
	whole = slices.Concat(b, []byte("the room behind it, which is nobody's but the caller's own: not read and not written into"))
	return whole[:len(b)], whole
}
