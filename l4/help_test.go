package l4_test

import (
	"encoding/binary"
	"encoding/hex"
	"math/rand"
	"net/netip"
	"slices"
	"strings"

	"weir/api"
)

var (
	none  api.IP
	ten   = ip("10.0.0.1")
	two   = ip("10.0.0.2")
	six   = ip("2001:db8::1")
	seven = ip("2001:db8::2")
	pairs = [][2]api.IP{{ten, two}, {six, seven}}
)

func ip(s string) api.IP {
	a := netip.MustParseAddr(s)
	if a.Is4() {
		b := a.As4()
		return api.IP{V: 4, A: [16]byte{b[0], b[1], b[2], b[3]}}
	}
	return api.IP{V: 6, A: a.As16()}
}

func hx(s string) []byte {
	b, err := hex.DecodeString(strings.ReplaceAll(s, " ", ""))
	if err != nil {
		panic(err)
	}
	return b
}

func opt(kind int, data ...byte) api.Opt { return api.Opt{Kind: kind, Data: data} }

func sameOpts(a, b []api.Opt) bool {
	return slices.EqualFunc(a, b, func(x, y api.Opt) bool { return x.Kind == y.Kind && slices.Equal(x.Data, y.Data) })
}

func sameUdp(x, y api.Udp) bool {
	return x.Sport == y.Sport && x.Dport == y.Dport && x.NoSum == y.NoSum && slices.Equal(x.Data, y.Data)
}

func sameTcp(x, y api.Tcp) bool {
	return x.Sport == y.Sport && x.Dport == y.Dport && x.Seq == y.Seq && x.Ack == y.Ack && x.Flags == y.Flags && x.Win == y.Win && x.Urg == y.Urg &&
		sameOpts(x.Opts, y.Opts) && slices.Equal(x.Data, y.Data)
}

// zeroUdp and zeroTcp tell whether nothing stands in an answer.
func zeroUdp(x api.Udp) bool { return sameUdp(x, api.Udp{}) && x.Data == nil }

func zeroTcp(x api.Tcp) bool { return sameTcp(x, api.Tcp{}) && x.Opts == nil && x.Data == nil }

// roomy is b with spare room behind it, and that room with it.
func roomy(b []byte) (part, whole []byte) {
	whole = slices.Concat(b, []byte("the room behind it, which is nobody's but the caller's own: not read and not written into"))
	return whole[:len(b)], whole
}

// scribble writes over an answer and the room behind it.
func scribble(b []byte) {
	for i := range b[:cap(b)] {
		b[:cap(b)][i] ^= 0xee
	}
}

// isIP tells whether a value is an address.
func isIP(a api.IP) bool {
	return a.V == 6 || a.V == 4 && binary.BigEndian.Uint64(a.A[8:]) == 0 && binary.BigEndian.Uint32(a.A[4:]) == 0
}

func fit(src, dst api.IP) bool { return isIP(src) && isIP(dst) && src.V == dst.V }

// modelSum is the right sum of a message with its own field, at the place own, taken as 0: reckoned as a remainder.
func modelSum(src, dst api.IP, proto, own int, b []byte) int {
	n := proto + len(b)
	for i, v := range slices.Concat(src.A[:], dst.A[:], b) { // of version 4 the bytes behind the fourth are zeros
		if at := i - 32; at != own && at != own+1 {
			n += int(v) << (8 * (1 - i%2))
		}
	}
	return (65535 - n%65535) % 65535
}

// summed is b with its sum put right at the place own.
func summed(src, dst api.IP, proto, own int, b []byte) []byte {
	binary.BigEndian.PutUint16(b[own:], uint16(modelSum(src, dst, proto, own, b)))
	return b
}

// udpBytes are the canonical ones of a datagram that may be.
func udpBytes(src, dst api.IP, u api.Udp) []byte {
	var b []byte
	for _, v := range []int{u.Sport, u.Dport, 8 + len(u.Data), 0} {
		b = binary.BigEndian.AppendUint16(b, uint16(v))
	}
	b = append(b, u.Data...)
	if u.NoSum {
		return b
	}
	if summed(src, dst, 17, 6, b); b[6]|b[7] == 0 {
		b[6], b[7] = 255, 255
	}
	return b
}

// tcpBytes are the canonical ones of a segment that may be.
func tcpBytes(src, dst api.IP, t api.Tcp) []byte {
	opts := optionBytes(t.Opts)
	b := binary.BigEndian.AppendUint16(nil, uint16(t.Sport))
	b = binary.BigEndian.AppendUint16(b, uint16(t.Dport))
	b = binary.BigEndian.AppendUint32(b, uint32(t.Seq))
	b = binary.BigEndian.AppendUint32(b, uint32(t.Ack))
	b = append(b, byte(80+4*len(opts)), byte(t.Flags))
	b = binary.BigEndian.AppendUint16(b, uint16(t.Win))
	b = binary.BigEndian.AppendUint32(b, uint32(t.Urg))
	return summed(src, dst, 6, 16, slices.Concat(b, opts, t.Data))
}

func optionBytes(l []api.Opt) []byte {
	var b []byte
	for _, o := range l {
		b = append(append(b, byte(o.Kind), byte(len(o.Data)+2)), o.Data...)
	}
	return append(b, make([]byte, (4-len(b)%4)%4)...)
}

// lengthFits tells whether an option of a kind may have that length.
func lengthFits(kind, n int) bool {
	switch kind {
	case 2:
		return n == 4
	case 3:
		return n == 3
	case 4:
		return n == 2
	case 5:
		return n == 10 || n == 18 || n == 26 || n == 34
	case 8:
		return n == 10
	}
	return n >= 2
}

// modelOptions reads options by another way than the program: it goes down what is left.
func modelOptions(b []byte) ([]api.Opt, bool) {
	switch {
	case len(b) > 40:
		return nil, false
	case len(b) == 0 || b[0] == 0:
		return nil, true
	case b[0] == 1:
		return modelOptions(b[1:])
	case len(b) < 2 || !lengthFits(int(b[0]), int(b[1])) || int(b[1]) > len(b):
		return nil, false
	}
	l, ok := modelOptions(b[b[1]:])
	if !ok {
		return nil, false
	}
	return append([]api.Opt{opt(int(b[0]), b[2:b[1]]...)}, l...), true
}

// optionsFit tells whether options may be written.
func optionsFit(l []api.Opt) bool {
	n := 0
	for _, o := range l {
		if n += 2 + len(o.Data); o.Kind < 2 || o.Kind > 255 || !lengthFits(o.Kind, 2+len(o.Data)) || n > 40 {
			return false
		}
	}
	return true
}

// modelUdp reads a datagram by another way than the program: each field from its bytes.
func modelUdp(src, dst api.IP, b []byte) (api.Udp, api.Errno) {
	switch {
	case len(b) > 65535:
		return api.Udp{}, api.ErrLong
	case !fit(src, dst):
		return api.Udp{}, api.ErrFamily
	case len(b) < 8:
		return api.Udp{}, api.ErrUdpShort
	}
	n, s := int(b[4])*256+int(b[5]), int(b[6])*256+int(b[7])
	if n < 8 || n > len(b) {
		return api.Udp{}, api.ErrUdpLength
	}
	if s == 0 && src.V == 6 || s != 0 && s%65535 != modelSum(src, dst, 17, 6, b[:n]) {
		return api.Udp{}, api.ErrUdpSum
	}
	return api.Udp{Sport: int(b[0])*256 + int(b[1]), Dport: int(b[2])*256 + int(b[3]), NoSum: s == 0, Data: b[8:n]}, api.OK
}

// modelTcp reads a segment so.
func modelTcp(src, dst api.IP, b []byte) (api.Tcp, api.Errno) {
	switch {
	case len(b) > 65535:
		return api.Tcp{}, api.ErrLong
	case !fit(src, dst):
		return api.Tcp{}, api.ErrFamily
	case len(b) < 20:
		return api.Tcp{}, api.ErrTcpShort
	}
	word := func(at int) int { return int(b[at])*256 + int(b[at+1]) }
	head := int(b[12]) / 16 * 4
	if head < 20 || head > len(b) {
		return api.Tcp{}, api.ErrTcpHead
	}
	if word(16)%65535 != modelSum(src, dst, 6, 16, b) {
		return api.Tcp{}, api.ErrTcpSum
	}
	l, ok := modelOptions(b[20:head])
	if !ok {
		return api.Tcp{}, api.ErrTcpOption
	}
	return api.Tcp{
		Sport: word(0), Dport: word(2), Seq: word(4)*65536 + word(6), Ack: word(8)*65536 + word(10),
		Flags: int(b[13]), Win: word(14), Urg: word(18), Opts: l, Data: b[head:],
	}, api.OK
}

func some(r *rand.Rand, n int) []byte {
	b := make([]byte, n)
	r.Read(b)
	return b
}

// someIPs are two addresses, which nearly always fit.
func someIPs(r *rand.Rand) (src, dst api.IP) {
	src, dst = ten, two
	r.Read(dst.A[:4])
	if r.Intn(2) == 0 {
		src, dst = six, seven
		r.Read(dst.A[8:])
	}
	switch r.Intn(60) {
	case 0:
		src = six
	case 1:
		dst = none
	case 2:
		src.V = r.Intn(9)
	}
	return src, dst
}

// someOption is one that may be and has at most room bytes, which are 2 at the least.
func someOption(r *rand.Rand, room int) api.Opt {
	for {
		kind, n := 2+r.Intn(8), []int{2, 3, 4, 10, 18, 26, 34, 2 + r.Intn(39)}[r.Intn(8)]
		if r.Intn(3) == 0 {
			kind = 2 + r.Intn(254)
		}
		if n <= room && lengthFits(kind, n) {
			return opt(kind, some(r, n-2)...)
		}
		if r.Intn(20) == 0 {
			return opt(4)
		}
	}
}

func someOptions(r *rand.Rand) []api.Opt {
	var l []api.Opt
	for room := r.Intn(41); room >= 2; {
		l = append(l, someOption(r, room))
		room -= 2 + len(l[len(l)-1].Data)
	}
	return l
}

// someOptionBytes are n bytes that are often those of options.
func someOptionBytes(r *rand.Rand, n int) []byte {
	var b []byte
	for len(b) < n {
		switch r.Intn(16) {
		case 0:
			b = append(b, 0)
		case 1, 2, 3:
			b = append(b, 1)
		case 4:
			b = append(b, byte(r.Intn(12)), byte(r.Intn(40)))
		case 5:
			b = append(b, byte(r.Intn(256)), byte(r.Intn(256)))
		default:
			if n-len(b) >= 2 {
				o := someOption(r, n-len(b))
				b = append(append(b, byte(o.Kind), byte(2+len(o.Data))), o.Data...)
			}
		}
	}
	return b[:n]
}

func someUdp(r *rand.Rand, v int) api.Udp {
	return api.Udp{Sport: r.Intn(65536), Dport: r.Intn(65536), NoSum: v == 4 && r.Intn(4) == 0, Data: some(r, r.Intn(40))}
}

func someTcp(r *rand.Rand) api.Tcp {
	return api.Tcp{
		Sport: r.Intn(65536), Dport: r.Intn(65536), Seq: int(r.Uint32()), Ack: int(r.Uint32()),
		Flags: r.Intn(256), Win: r.Intn(65536), Urg: r.Intn(65536), Opts: someOptions(r), Data: some(r, r.Intn(40)),
	}
}

// someUdpBytes are often those of a datagram, or near to one.
func someUdpBytes(r *rand.Rand, src, dst api.IP) []byte {
	b := some(r, 8+r.Intn(20))
	n := len(b)
	switch r.Intn(12) {
	case 0:
		n = r.Intn(40)
	case 1, 2, 3:
		n = 8 + r.Intn(n-7)
	}
	binary.BigEndian.PutUint16(b[4:], uint16(n))
	if n >= 8 && n <= len(b) && r.Intn(8) > 0 {
		if r.Intn(4) == 0 { // so that the right sum is 0
			summed(src, dst, 17, 6, b[:n])
			x := int(binary.BigEndian.Uint16(b)) + int(binary.BigEndian.Uint16(b[6:]))
			binary.BigEndian.PutUint16(b, uint16(x%65535))
		}
		summed(src, dst, 17, 6, b[:n])
		if b[6]|b[7] == 0 && r.Intn(2) == 0 {
			b[6], b[7] = 255, 255
		}
	}
	if r.Intn(20) == 0 {
		b = b[:r.Intn(len(b)+1)]
	}
	return b
}

// someTcpBytes are often those of a segment, or near to one.
func someTcpBytes(r *rand.Rand, src, dst api.IP) []byte {
	head := 20
	if r.Intn(2) == 0 {
		head += 4 * r.Intn(11)
	}
	b := slices.Concat(some(r, 20), someOptionBytes(r, head-20), some(r, r.Intn(12)))
	b[12] = byte(head*4 + r.Intn(16))
	if r.Intn(16) == 0 {
		b[12] = byte(r.Intn(256))
	}
	if r.Intn(16) > 0 {
		if r.Intn(4) == 0 { // so that the right sum is 0
			summed(src, dst, 6, 16, b)
			x := int(binary.BigEndian.Uint16(b)) + int(binary.BigEndian.Uint16(b[16:]))
			binary.BigEndian.PutUint16(b, uint16(x%65535))
		}
		summed(src, dst, 6, 16, b)
		if b[16]|b[17] == 0 && r.Intn(2) == 0 {
			b[16], b[17] = 255, 255
		}
	}
	if r.Intn(20) == 0 {
		b = b[:r.Intn(len(b)+1)]
	}
	return b
}
