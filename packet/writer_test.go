package packet_test

import (
	"encoding/binary"
	"math/rand"
	"slices"

	"weir/api"
)

// writer writes a packet that may be by another way than the program: byte by byte. Without r it writes the canonical form;
// with it whatever else is read as the same: reserved bits, fill, bytes behind an end, both zeros of a sum, no padding.
type writer struct{ r *rand.Rand }

func (w writer) loose(n int) bool { return w.r != nil && w.r.Intn(n) == 0 }

// junk is up to n bytes more where they do not matter.
func (w writer) junk(n int) []byte {
	if w.r == nil || w.r.Intn(2) == 0 {
		return nil
	}
	return some(w.r, w.r.Intn(n+1))
}

func (w writer) bits(most int) int {
	if w.r == nil {
		return 0
	}
	return w.r.Intn(most + 1)
}

// rightSum is the sum that belongs with these bytes, whose own field is 0: reckoned as a remainder.
func rightSum(parts ...[]byte) int {
	n := 0
	for i, v := range slices.Concat(parts...) {
		n += int(v) << (8 * (1 - i%2))
	}
	if n == 0 {
		return 65535
	}
	return (65535 - n%65535) % 65535
}

// summed lays a sum at its place; of its two zeros the canonical one, or any.
func (w writer) summed(b []byte, at, sum, zero int) []byte {
	if sum%65535 == 0 && slices.ContainsFunc(b, func(v byte) bool { return v != 0 }) {
		if sum = zero; zero == 0 && w.loose(2) {
			sum = 65535
		}
	}
	binary.BigEndian.PutUint16(b[at:], uint16(sum))
	return b
}

func word(v int) []byte { return binary.BigEndian.AppendUint16(nil, uint16(v)) }

func long(v int) []byte { return binary.BigEndian.AppendUint32(nil, uint32(v)) }

func bit(set bool, value int) int {
	if set {
		return value
	}
	return 0
}

func (w writer) frame(p api.Packet) []byte {
	b := slices.Concat(p.Dst[:], p.Src[:])
	for _, t := range p.Tags {
		b = slices.Concat(b, word(t.TPID), word(t.PCP<<13|bit(t.DEI, 1<<12)|t.VID))
	}
	switch p.Kind {
	case api.PArp:
		a := p.Arp
		b = slices.Concat(b, hx("0806 0001 0800 06 04"), word(a.Op), a.SMac[:], a.SIP.A[:4], a.TMac[:], a.TIP.A[:4])
	case api.PIp4:
		b = slices.Concat(b, hx("0800"), w.four(p.Ip4, w.upper(p)))
	case api.PIp6:
		b = slices.Concat(b, hx("86dd"), w.six(p.Ip6, w.upper(p)))
	}
	if w.r == nil {
		return append(b, make([]byte, max(0, 60-len(b)))...)
	}
	return append(b, w.junk(50)...)
}

func (w writer) upper(p api.Packet) []byte {
	src, dst := p.Ip4.Src.A[:4], p.Ip4.Dst.A[:4]
	if p.Kind == api.PIp6 {
		src, dst = p.Ip6.Src.A[:], p.Ip6.Dst.A[:]
	}
	switch p.L4 {
	case api.LIcmp:
		b := slices.Concat([]byte{byte(p.Icmp.Type), byte(p.Icmp.Code), 0, 0}, long(p.Icmp.Rest), p.Icmp.Data)
		if p.Icmp.V == 4 {
			return w.summed(b, 2, rightSum(b), 0)
		}
		return w.summed(b, 2, rightSum(src, dst, word(len(b)), word(58), b), 0)
	case api.LUdp:
		n := 8 + len(p.Udp.Data)
		b := slices.Concat(word(p.Udp.Sport), word(p.Udp.Dport), word(n), word(0), p.Udp.Data)
		if !p.Udp.NoSum {
			w.summed(b, 6, rightSum(src, dst, word(n), word(17), b), 65535)
		}
		return append(b, w.junk(9)...)
	case api.LTcp:
		t := p.Tcp
		opts := w.opts(t.Opts)
		b := slices.Concat(word(t.Sport), word(t.Dport), long(t.Seq), long(t.Ack), []byte{byte(80 + 4*len(opts) + w.bits(15)), byte(t.Flags)}, word(t.Win), word(0), word(t.Urg), opts, t.Data)
		return w.summed(b, 16, rightSum(src, dst, word(len(b)), word(6), b), 0)
	}
	return slices.Concat(p.Ip4.Data, p.Ip6.Data)
}

// opts are those of IPv4 and TCP.
func (w writer) opts(l []api.Opt) []byte {
	room := 40
	for _, o := range l {
		room -= 2 + len(o.Data)
	}
	fill := func() (b []byte) {
		for room > 0 && w.loose(2) {
			b, room = append(b, 1), room-1
		}
		return b
	}
	var b []byte
	for _, o := range l {
		b = slices.Concat(b, fill(), []byte{byte(o.Kind), byte(2 + len(o.Data))}, o.Data)
	}
	b = append(b, fill()...)
	if room > 0 && w.loose(2) {
		b = append(b, 0)
		b = append(b, w.junk(room-1)...)
		if len(b)%4 > 0 {
			b = append(b, some(w.r, 4-len(b)%4)...)
		}
	}
	return append(b, make([]byte, (4-len(b)%4)%4)...)
}

func (w writer) four(h api.Ip4, data []byte) []byte {
	opts := w.opts(h.Opts)
	head := slices.Concat([]byte{byte(0x45 + len(opts)/4), byte(h.Tos)}, word(20+len(opts)+len(data)), word(h.ID),
		word(bit(w.loose(2), 0x8000)|bit(h.DF, 0x4000)|bit(h.MF, 0x2000)|h.Off/8), []byte{byte(h.TTL), byte(h.Proto), 0, 0}, h.Src.A[:4], h.Dst.A[:4], opts)
	return append(w.summed(head, 10, rightSum(head), 0), data...)
}

func (w writer) six(h api.Ip6, data []byte) []byte {
	kinds := []int{}
	for _, x := range h.Exts {
		kinds = append(kinds, x.Kind)
	}
	if h.Frag.Has {
		kinds = append(kinds, 44)
	}
	kinds = append(kinds, h.Next)
	var b []byte
	for i, x := range h.Exts {
		body := slices.Concat(x.Data, w.opts6(x.Opts))
		b = append(append(b, byte(kinds[i+1]), byte(len(body)/8)), body...)
	}
	if f := h.Frag; f.Has {
		b = slices.Concat(b, []byte{byte(h.Next), byte(w.bits(255))}, word(f.Off|w.bits(3)<<1|bit(f.More, 1)), long(f.ID))
	}
	b = append(b, data...)
	return slices.Concat(long(6<<28|h.Class<<20|h.Flow), word(len(b)), []byte{byte(kinds[0]), byte(h.Hop)}, h.Src.A[:], h.Dst.A[:], b)
}

func (w writer) opts6(l []api.Opt) []byte {
	var b []byte
	for _, o := range l {
		if o.Kind != 0 {
			b = append(append(b, byte(o.Kind), byte(len(o.Data))), o.Data...)
			continue
		}
		for n := len(o.Data); n > 0; {
			k := min(n, 257)
			if w.r != nil {
				k = 1 + w.r.Intn(k)
			}
			if n -= k; k == 1 {
				b = append(b, 0)
			} else if b = append(b, 1, byte(k-2)); w.loose(2) {
				b = append(b, some(w.r, k-2)...)
			} else {
				b = append(b, make([]byte, k-2)...)
			}
		}
	}
	return b
}
