package icmp_test

import (
	"encoding/binary"
	"encoding/hex"
	"math/rand"
	"net/netip"
	"slices"
	"strings"

	"weir/api"
	"weir/ip4"
	"weir/ip6"
)

var (
	none api.IP
	l    = ip("2001:db8::1")
	m    = ip("2001:db8::2")
	ten  = ip("10.0.0.1")
	mac  = api.Mac{2, 0, 0, 0, 0, 1}
)

const most = 65507 // bytes of a message's Data

func ip(s string) api.IP {
	a := netip.MustParseAddr(s)
	if a.Is4() {
		b := a.As4()
		return api.IP{V: 4, A: [16]byte{b[0], b[1], b[2], b[3]}}
	}
	return api.IP{V: 6, A: a.As16()}
}

func hx(s string) []byte {
	b, err := hex.DecodeString(strings.ReplaceAll(s, " ", ""))
	if err != nil {
		panic(err)
	}
	return b
}

func same(x, y api.Icmp) bool {
	return x.V == y.V && x.Type == y.Type && x.Code == y.Code && x.Rest == y.Rest && slices.Equal(x.Data, y.Data)
}

// zero tells whether nothing stands in a message.
func zero(x api.Icmp) bool { return same(x, api.Icmp{}) && x.Data == nil }

// roomy is b with spare room behind it, and that room with it.
func roomy(b []byte) (part, whole []byte) {
	whole = slices.Concat(b, []byte("the room behind it, which is nobody's but the caller's own: not read and not written into"))
	return whole[:len(b)], whole
}

// scribble writes over an answer and the room behind it.
func scribble(b []byte) {
	for i := range b[:cap(b)] {
		b[:cap(b)][i] ^= 0xee
	}
}

// modelPseudo is what the sum of a message takes in beside it.
func modelPseudo(v int, src, dst api.IP, n int) []byte {
	if v == 4 {
		return nil
	}
	return slices.Concat(src.A[:], dst.A[:], []byte{0, 0, byte(n >> 8), byte(n), 0, 0, 0, 58})
}

// modelSum is the right sum of a message, whose own field is taken as 0: reckoned as a remainder.
func modelSum(v int, src, dst api.IP, b []byte) int {
	all := slices.Concat(modelPseudo(v, src, dst, len(b)), b, make([]byte, len(b)%2))
	own := len(all) - len(b) - len(b)%2 + 2
	n := 0
	for i := 0; i < len(all); i += 2 {
		if i != own {
			n += int(binary.BigEndian.Uint16(all[i:]))
		}
	}
	if n == 0 {
		return 65535
	}
	return (65535 - n%65535) % 65535
}

// summed is b with its sum put right.
func summed(v int, src, dst api.IP, b []byte) []byte {
	binary.BigEndian.PutUint16(b[2:], uint16(modelSum(v, src, dst, b)))
	return b
}

// modelBytes are those of a message that may be.
func modelBytes(src, dst api.IP, x api.Icmp) []byte {
	b := binary.BigEndian.AppendUint32([]byte{byte(x.Type), byte(x.Code), 0, 0}, uint32(x.Rest))
	return summed(x.V, src, dst, append(b, x.Data...))
}

// model reads a message by another way than the program: each field from its bytes.
func model(v int, src, dst api.IP, b []byte) (api.Icmp, api.Errno) {
	switch {
	case len(b) > 65515:
		return api.Icmp{}, api.ErrLong
	case v != 4 && v != 6:
		return api.Icmp{}, api.ErrArg
	case v == 6 && (src.V != 6 || dst.V != 6):
		return api.Icmp{}, api.ErrFamily
	case len(b) < 8:
		return api.Icmp{}, api.ErrIcmpShort
	}
	s, zeros := int(binary.BigEndian.Uint16(b[2:])), v == 4 && !slices.ContainsFunc(b, func(x byte) bool { return x > 0 })
	if zeros || s%65535 != modelSum(v, src, dst, b)%65535 {
		return api.Icmp{}, api.ErrIcmpSum
	}
	return api.Icmp{V: v, Type: int(b[0]), Code: int(b[1]), Rest: int(binary.BigEndian.Uint32(b[4:])), Data: b[8:]}, api.OK
}

// modelTrouble is the message of a trouble without its Data, read row by row.
func modelTrouble(v int, t api.Trouble) (api.Icmp, bool) {
	say := func(four, six [3]int) (api.Icmp, bool) {
		if v == 4 {
			return api.Icmp{V: 4, Type: four[0], Code: four[1], Rest: four[2]}, true
		}
		return api.Icmp{V: 6, Type: six[0], Code: six[1], Rest: six[2]}, true
	}
	x := t.Extra
	switch {
	case x < 0 || x > 65535 || x > 255 && v == 4 && t.Kind == 7 || x != 0 && t.Kind != 4 && t.Kind != 7:
		return api.Icmp{}, false
	case t.Kind == 1:
		return say([3]int{3, 0}, [3]int{1, 0})
	case t.Kind == 2:
		return say([3]int{3, 1}, [3]int{1, 3})
	case t.Kind == 3:
		return say([3]int{3, 13}, [3]int{1, 1})
	case t.Kind == 4:
		return say([3]int{3, 4, x}, [3]int{2, 0, x})
	case t.Kind == 5:
		return say([3]int{11, 0}, [3]int{3, 0})
	case t.Kind == 6:
		return say([3]int{11, 1}, [3]int{3, 1})
	case t.Kind == 7:
		return say([3]int{12, 0, x * 16777216}, [3]int{4, 0, x})
	}
	return api.Icmp{}, false
}

// modelComplain4 asks the addresses by their first bytes.
func modelComplain4(t api.Trouble, h api.Ip4) (api.Icmp, bool) {
	x, ok := modelTrouble(4, t)
	b, e := ip4.Serialise(h)
	if !ok || e != api.OK || h.Off != 0 {
		return api.Icmp{}, false
	}
	if h.Proto == 1 && len(h.Data) > 0 && slices.Contains([]byte{3, 4, 5, 11, 12}, h.Data[0]) {
		return api.Icmp{}, false
	}
	if d := h.Dst.A; d[0]/16 == 14 || d[0] == 255 && d[1] == 255 && d[2] == 255 && d[3] == 255 {
		return api.Icmp{}, false
	}
	if s := h.Src.A[0]; s == 0 || s == 127 || s >= 224 {
		return api.Icmp{}, false
	}
	x.Data = b[:min(len(b), 548)]
	return x, true
}

func modelComplain6(t api.Trouble, h api.Ip6) (api.Icmp, bool) {
	x, ok := modelTrouble(6, t)
	b, e := ip6.Serialise(h)
	if !ok || e != api.OK || h.Frag.Off != 0 {
		return api.Icmp{}, false
	}
	if h.Next == 58 && len(h.Data) > 0 && (h.Data[0]/128 == 0 || h.Data[0] == 137) {
		return api.Icmp{}, false
	}
	if h.Dst.A[0] == 255 && t.Kind != 4 || h.Src.A[0] == 255 || h.Src.A[0] == 0 {
		return api.Icmp{}, false
	}
	x.Data = b[:min(len(b), 1232)]
	return x, true
}

// modelOptions reads a neighbour's options by another way than the program: it goes down what is left, and the first of the
// kind that counts is the last to be seen.
func modelOptions(b []byte, kind byte) (addr api.Mac, has, ok bool) {
	if len(b) == 0 {
		return api.Mac{}, false, true
	}
	if len(b) == 1 || b[1] == 0 || 8*int(b[1]) > len(b) || b[0] == kind && b[1] != 1 {
		return api.Mac{}, false, false
	}
	addr, has, ok = modelOptions(b[8*int(b[1]):], kind)
	if ok && b[0] == kind {
		return api.Mac(b[2:8]), true, true
	}
	return addr, has, ok
}

// modelND reads a neighbour's message, one that Check takes.
func modelND(x api.Icmp) (api.ND, api.Errno) {
	kind := x.Type - 134
	if x.V != 6 || x.Code != 0 || kind != 1 && kind != 2 {
		return api.ND{}, api.ErrNotND
	}
	if len(x.Data) < 16 {
		return api.ND{}, api.ErrNdShort
	}
	n := api.ND{Kind: kind, Target: api.IP{V: 6, A: [16]byte(x.Data)}}
	if n.Target.A[0] == 255 || n.Target.A == [16]byte{} {
		return api.ND{}, api.ErrNdTarget
	}
	ok := false
	if n.Mac, n.HasMac, ok = modelOptions(x.Data[16:], byte(kind)); !ok {
		return api.ND{}, api.ErrNdOption
	}
	top := x.Rest / 536870912 * (kind - 1)
	n.Router, n.Solicited, n.Override = top/4 == 1, top/2%2 == 1, top%2 == 1
	return n, api.OK
}

func someIP(r *rand.Rand, v int) api.IP {
	firsts := []string{"0.0.0.0", "0.0.0.1", "127.0.0.1", "224.0.0.1", "239.255.255.255", "169.254.1.2", "255.255.255.255", "255.255.255.254", "240.0.0.1", "10.0.0.1", "192.0.2.1", "223.1.1.1", "128.0.0.0"}
	if v == 6 {
		firsts = []string{"::", "::1", "::2", "ff02::1", "ff00::", "fe80::1", "febf::", "fec0::", "2001:db8::1", "100::", "fe00::1", "80::", "::ffff:10.0.0.1"}
	}
	if r.Intn(8) == 0 {
		a := api.IP{V: v}
		r.Read(a.A[:4*(v-4)*3/2+4]) // 4 bytes, or 16
		return a
	}
	return ip(firsts[r.Intn(len(firsts))])
}

// goodIP is an address that a complaint may go from or to.
func goodIP(r *rand.Rand, v int) api.IP {
	if v == 4 {
		return ip([]string{"10.0.0.1", "169.254.1.2", "192.0.2.1"}[r.Intn(3)])
	}
	return ip([]string{"2001:db8::1", "fe80::1", "fec0::"}[r.Intn(3)])
}

func someTrouble(r *rand.Rand) api.Trouble {
	t := api.Trouble{Kind: r.Intn(9)}
	if t.Kind == 4 || t.Kind == 7 || r.Intn(9) == 0 {
		t.Extra = []int{0, 1, 20, 255, 256, 1280, 65535, 65536, -1}[r.Intn(9)]
	}
	return t
}

// someLength is often a length at which something is cut off.
func someLength(r *rand.Rand, cut int) int {
	if r.Intn(3) == 0 {
		return cut - 4 + r.Intn(9)
	}
	return r.Intn(64)
}

// someDatagram4 is one that often may be, and of which a complaint is often told.
func someDatagram4(r *rand.Rand) api.Ip4 {
	h := api.Ip4{Tos: r.Intn(256), ID: r.Intn(65536), DF: r.Intn(2) == 0, TTL: r.Intn(256), Proto: []int{1, 6, 17, r.Intn(256)}[r.Intn(4)], Src: goodIP(r, 4), Dst: goodIP(r, 4)}
	switch r.Intn(6) {
	case 0:
		h.Src = someIP(r, 4)
	case 1:
		h.Dst = someIP(r, 4)
	case 2:
		h.Off = 8 * r.Intn(3)
	case 3:
		h.MF = true
	}
	if r.Intn(3) == 0 {
		h.Opts = []api.Opt{{Kind: 7, Data: make([]byte, r.Intn(39))}}
	}
	h.Data = make([]byte, someLength(r, 548-20-4*r.Intn(11)))
	r.Read(h.Data)
	if len(h.Data) > 0 && r.Intn(2) == 0 {
		h.Data[0] = byte(r.Intn(16))
	}
	return h
}

func someDatagram6(r *rand.Rand) api.Ip6 {
	h := api.Ip6{Class: r.Intn(256), Flow: r.Intn(1 << 20), Hop: r.Intn(256), Next: []int{58, 6, 17, 1, r.Intn(256)}[r.Intn(5)], Src: goodIP(r, 6), Dst: goodIP(r, 6)}
	switch r.Intn(6) {
	case 0:
		h.Src = someIP(r, 6)
	case 1:
		h.Dst = someIP(r, 6)
	case 2:
		h.Frag = api.Frag{Has: true, More: r.Intn(2) == 0, Off: 8 * r.Intn(3), ID: int(r.Uint32())}
	}
	if r.Intn(3) == 0 {
		h.Exts = []api.Ext{{Kind: 43, Data: make([]byte, 8*r.Intn(5)+6)}}
	}
	h.Data = make([]byte, someLength(r, 1232-40-8*r.Intn(6)))
	r.Read(h.Data)
	if len(h.Data) > 0 && r.Intn(2) == 0 {
		h.Data[0] = byte(120 + r.Intn(20))
	}
	return h
}

// someBytes are often those of a message, or near to one.
func someBytes(r *rand.Rand, v int, src, dst api.IP) []byte {
	b := make([]byte, 8+r.Intn(30))
	r.Read(b)
	switch r.Intn(10) {
	case 0:
		return b[:r.Intn(len(b)+1)]
	case 1:
		return b
	case 2:
		clear(b)
	case 3: // the sum is often 0
		clear(b[2:])
		b[0], b[1] = 255, 255
		binary.BigEndian.PutUint16(b[4:], uint16(modelSum(v, src, dst, b)))
	}
	summed(v, src, dst, b)
	switch {
	case b[2]|b[3] == 0 && r.Intn(2) == 0:
		b[2], b[3] = 255, 255
	case b[2]&b[3] == 255 && r.Intn(2) == 0:
		b[2], b[3] = 0, 0
	case r.Intn(10) == 0:
		b[r.Intn(len(b))] ^= 1 << r.Intn(8)
	}
	return b
}

// someND is a neighbour's message, or near to one.
func someND(r *rand.Rand) api.Icmp {
	x := api.Icmp{V: 6, Type: 135 + r.Intn(2), Rest: int(r.Uint32()), Data: make([]byte, 16)}
	r.Read(x.Data)
	if r.Intn(10) == 0 {
		a := someIP(r, 6)
		copy(x.Data, a.A[:])
	}
	for range r.Intn(4) {
		n := 1
		if r.Intn(3) == 0 {
			n = 1 + r.Intn(3)
		}
		o := make([]byte, 8*n)
		r.Read(o)
		o[0], o[1] = byte(r.Intn(4)), byte(n)
		if r.Intn(30) == 0 {
			o[1] = byte(r.Intn(4))
		}
		x.Data = append(x.Data, o...)
	}
	switch r.Intn(30) {
	case 0:
		x.V = 4
	case 1:
		x.Type = r.Intn(256)
	case 2:
		x.Code = r.Intn(3)
	case 3, 4:
		x.Data = x.Data[:r.Intn(len(x.Data)+1)]
	case 5:
		x.Data = append(x.Data, byte(r.Intn(4)))
	}
	return x
}
