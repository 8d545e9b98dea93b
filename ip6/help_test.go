package ip6_test

import (
	"encoding/binary"
	"encoding/hex"
	"math/rand"
	"slices"
	"strings"

	"weir/api"
)

var (
	a = api.IP{V: 6, A: [16]byte{0x20, 1, 0xd, 0xb8, 4: 0x11, 15: 1}}
	b = api.IP{V: 6, A: [16]byte{0xfe, 0x80, 7: 0x22, 15: 2}}
)

const zeros6 = "01 04 00 00 00 00" // six bytes of padding, as they are written

func hx(s string) []byte {
	x, err := hex.DecodeString(strings.ReplaceAll(s, " ", ""))
	if err != nil {
		panic(err)
	}
	return x
}

// head is the document's H(n, k, h), and what stands behind.
func head(n, next, hop int, rest ...byte) []byte {
	x := []byte{0x60, 0, 0, 0, byte(n >> 8), byte(n), byte(next), byte(hop)}
	return slices.Concat(x, a.A[:], b.A[:], rest)
}

// dg is a datagram of a's to b with these bytes behind its header.
func dg(next int, rest ...byte) []byte { return head(len(rest), next, 64, rest...) }

// bare is a datagram without anything behind its header, with something changed.
func bare(f func(*api.Ip6)) api.Ip6 {
	h := api.Ip6{Hop: 64, Src: a, Dst: b, Next: 59}
	f(&h)
	return h
}

func withExts(l ...api.Ext) api.Ip6 { return bare(func(h *api.Ip6) { h.Exts = l }) }

func opt(kind int, data ...byte) api.Opt { return api.Opt{Kind: kind, Data: data} }

func run(n int) api.Opt { return api.Opt{Data: make([]byte, n)} }

func options(kind int, l ...api.Opt) api.Ext { return api.Ext{Kind: kind, Opts: l} }

func routes(data ...byte) api.Ext { return api.Ext{Kind: 43, Data: data} }

func sameOpts(x, y []api.Opt) bool {
	return slices.EqualFunc(x, y, func(o, p api.Opt) bool { return o.Kind == p.Kind && slices.Equal(o.Data, p.Data) })
}

func sameExts(x, y []api.Ext) bool {
	return slices.EqualFunc(x, y, func(o, p api.Ext) bool {
		return o.Kind == p.Kind && slices.Equal(o.Data, p.Data) && sameOpts(o.Opts, p.Opts)
	})
}

func same(x, y api.Ip6) bool {
	return x.Class == y.Class && x.Flow == y.Flow && x.Hop == y.Hop && x.Src == y.Src && x.Dst == y.Dst &&
		x.Frag == y.Frag && x.Next == y.Next && sameExts(x.Exts, y.Exts) && slices.Equal(x.Data, y.Data)
}

// zero tells whether nothing stands in a datagram.
func zero(h api.Ip6) bool { return same(h, api.Ip6{}) && h.Exts == nil && h.Data == nil }

// copied is the same datagram in other memory, so that it can be told whether a call has changed the first.
func copied(h api.Ip6) api.Ip6 {
	h.Data, h.Exts = slices.Clone(h.Data), copiedExts(h.Exts)
	return h
}

func copiedExts(l []api.Ext) []api.Ext {
	l = slices.Clone(l)
	for i := range l {
		l[i].Data, l[i].Opts = slices.Clone(l[i].Data), slices.Clone(l[i].Opts)
		for j := range l[i].Opts {
			l[i].Opts[j].Data = slices.Clone(l[i].Opts[j].Data)
		}
	}
	return l
}

// modelOptions reads options by another way than the program: from their end.
func modelOptions(b []byte) ([]api.Opt, bool) {
	if len(b) == 0 {
		return nil, true
	}
	n := 1
	if b[0] > 0 {
		if len(b) < 2 || len(b) < 2+int(b[1]) {
			return nil, false
		}
		n = 2 + int(b[1])
	}
	l, ok := modelOptions(b[n:])
	switch {
	case !ok:
		return nil, false
	case b[0] > 1:
		return append([]api.Opt{opt(int(b[0]), b[2:n]...)}, l...), true
	case len(l) > 0 && l[0].Kind == 0:
		return append([]api.Opt{run(n + len(l[0].Data))}, l[1:]...), true
	}
	return append([]api.Opt{run(n)}, l...), true
}

// modelChain reads what stands behind a header of 40 bytes, or, if within, behind a Fragment header.
func modelChain(next int, b []byte, within bool) (l []api.Ext, f api.Frag, last int, rest []byte, e api.Errno) {
	for next == 0 || next == 43 || next == 60 {
		if next == 0 && (within || len(l) > 0) {
			return nil, f, 0, nil, api.ErrFirst
		}
		if len(l) > 7 {
			return nil, f, 0, nil, api.ErrExts
		}
		if len(b) < 8 || len(b) < 8+8*int(b[1]) {
			return nil, f, 0, nil, api.ErrChain
		}
		n := 8 + 8*int(b[1])
		x := api.Ext{Kind: next, Data: b[2:n]}
		if next != 43 {
			o, ok := modelOptions(b[2:n])
			if !ok {
				return nil, f, 0, nil, api.ErrOption6
			}
			x = api.Ext{Kind: next, Opts: o}
		}
		l, next, b = append(l, x), int(b[0]), b[n:]
	}
	if next != 44 {
		return l, f, next, b, api.OK
	}
	if within {
		return nil, f, 0, nil, api.ErrFrag6
	}
	if len(b) < 8 {
		return nil, f, 0, nil, api.ErrChain
	}
	place := int(binary.BigEndian.Uint16(b[2:]))
	f = api.Frag{Has: true, More: place%2 == 1, Off: place &^ 7, ID: int(binary.BigEndian.Uint32(b[4:]))}
	n := len(b) - 8
	if f.More && (n%8 != 0 || n == 0) || f.Off > 0 && n == 0 || f.Off+n > 65535 {
		return nil, api.Frag{}, 0, nil, api.ErrFrag6
	}
	return l, f, int(b[0]), b[8:], api.OK
}

// model reads a datagram by another way than the program: each field from its bytes.
func model(b []byte) (api.Ip6, api.Errno) {
	switch {
	case len(b) > 65535:
		return api.Ip6{}, api.ErrLong
	case len(b) < 40:
		return api.Ip6{}, api.ErrShort6
	case b[0]/16 != 6:
		return api.Ip6{}, api.ErrVersion6
	}
	n := int(binary.BigEndian.Uint16(b[4:]))
	if n > len(b)-40 {
		return api.Ip6{}, api.ErrShort6
	}
	first := int(binary.BigEndian.Uint32(b))
	h := api.Ip6{Class: first >> 20 & 0xff, Flow: first & 0xfffff, Hop: int(b[7])}
	h.Src = api.IP{V: 6, A: [16]byte(b[8:24])}
	h.Dst = api.IP{V: 6, A: [16]byte(b[24:40])}
	var e api.Errno
	if h.Exts, h.Frag, h.Next, h.Data, e = modelChain(int(b[6]), b[40:40+n], false); e != api.OK {
		return api.Ip6{}, e
	}
	return h, api.OK
}

// modelRun is how a run of n bytes of padding is written.
func modelRun(n int) []byte {
	switch {
	case n < 2:
		return make([]byte, n)
	case n > 257:
		return append(modelRun(257), modelRun(n-257)...)
	}
	return append([]byte{1, byte(n - 2)}, make([]byte, n-2)...)
}

// modelExts are the canonical bytes of extension headers that may be.
func modelExts(l []api.Ext, next int) []byte {
	var all []byte
	for i := len(l) - 1; i >= 0; i-- {
		body := slices.Clone(l[i].Data)
		for _, o := range l[i].Opts {
			if o.Kind == 0 {
				body = append(body, modelRun(len(o.Data))...)
			} else {
				body = append(append(body, byte(o.Kind), byte(len(o.Data))), o.Data...)
			}
		}
		all = slices.Concat([]byte{byte(next), byte(len(body) / 8)}, body, all)
		next = l[i].Kind
	}
	return all
}

// modelBytes are the canonical bytes of a datagram that may be.
func modelBytes(h api.Ip6) []byte {
	rest, next := h.Data, h.Next
	if h.Frag.Has {
		place := h.Frag.Off
		if h.Frag.More {
			place++
		}
		f := binary.BigEndian.AppendUint16([]byte{byte(next), 0}, uint16(place))
		rest, next = append(binary.BigEndian.AppendUint32(f, uint32(h.Frag.ID)), rest...), 44
	}
	rest = append(modelExts(h.Exts, next), rest...)
	if len(h.Exts) > 0 {
		next = h.Exts[0].Kind
	}
	x := binary.BigEndian.AppendUint32(nil, uint32(6<<28+h.Class<<20+h.Flow))
	x = binary.BigEndian.AppendUint16(x, uint16(len(rest)))
	return slices.Concat(x, []byte{byte(next), byte(h.Hop)}, h.Src.A[:], h.Dst.A[:], rest)
}

// someOptions are n bytes that are often those of options.
func someOptions(r *rand.Rand, n int) []byte {
	var x []byte
	for len(x) < n {
		left := n - len(x)
		k := r.Intn(min(left, 12) + 1)
		switch c := r.Intn(40); {
		case c < 12:
			x = append(x, make([]byte, r.Intn(3))...)
		case c < 14:
			x = append(x, byte(r.Intn(4)), byte(r.Intn(min(left+3, 256))))
		case k >= 2 && c < 25:
			x = append(x, 1, byte(k-2))
			x = append(x, make([]byte, k-2)...)
			if c == 24 {
				r.Read(x[len(x)-k+2:])
			}
		case k >= 2:
			x = append(x, byte(2+r.Intn(254)), byte(k-2))
			x = append(x, make([]byte, k-2)...)
			r.Read(x[len(x)-k+2:])
		}
	}
	return x[:n]
}

// someKind is the kind of an extension header that may stand there, or, now and then, of one that may not.
func someKind(r *rand.Rand, first bool) int {
	switch c := r.Intn(30); {
	case c == 0:
		return 44 * r.Intn(2)
	case first && c < 12:
		return 0
	case c < 20:
		return 60
	}
	return 43
}

// someChain are bytes that are often those of extension headers and what they are ahead of, and the kind of the first.
func someChain(r *rand.Rand, within bool) (int, []byte) {
	var x []byte
	next := []int{6, 17, 58, 59, 50, 51, 135, 1, 255, r.Intn(256)}[r.Intn(10)]
	n := r.Intn(30)
	if r.Intn(2) == 0 {
		n = 8 * r.Intn(4)
	}
	data := make([]byte, n)
	r.Read(data)
	if r.Intn(3) == 0 && !within {
		f := []byte{byte(next), byte(r.Intn(2) * r.Intn(256)), 0, byte(r.Intn(16)), 0, 0, 0, byte(r.Intn(256))}
		switch r.Intn(6) {
		case 0:
			f[2], f[3] = 0xff, byte(0xd0+r.Intn(48))
		case 1:
			f[2], f[3] = byte(r.Intn(256)), byte(r.Intn(256))
		}
		x, next = f, 44
	}
	x = append(x, data...)
	k := r.Intn(4)
	if r.Intn(8) == 0 {
		k = 8 + r.Intn(2)
	}
	for i := range k {
		n := r.Intn(4)
		if r.Intn(30) == 0 {
			n = 30 + r.Intn(226)
		}
		kind := someKind(r, i == k-1 && !within)
		body := someOptions(r, 8*n+6)
		if r.Intn(50) == 0 {
			n = r.Intn(256)
		}
		x = slices.Concat([]byte{byte(next), byte(n)}, body, x)
		next = kind
	}
	return next, x
}

// someBytes are often those of a datagram, or near to one.
func someBytes(r *rand.Rand) []byte {
	next, rest := someChain(r, false)
	x := make([]byte, 40, 50+len(rest))
	r.Read(x)
	x[0] = 0x60 | x[0]&0xf
	if len(rest) > 65495 {
		rest = rest[:65495]
	}
	n := len(rest)
	switch r.Intn(12) {
	case 0:
		n = r.Intn(n + 1)
	case 1:
		n += r.Intn(3)
	}
	binary.BigEndian.PutUint16(x[4:], uint16(n))
	x[6] = byte(next)
	x = append(x, rest...)
	switch r.Intn(20) {
	case 0:
		x[0] = byte(r.Intn(256))
	case 1:
		x = x[:r.Intn(len(x)+1)]
	case 2:
		x = append(x, byte(r.Intn(256)))
	case 3:
		x[r.Intn(len(x))] ^= 1 << r.Intn(8)
	}
	return x
}

// someOpts are options that may be, of 8n + 6 bytes.
func someOpts(r *rand.Rand, n int) []api.Opt {
	var l []api.Opt
	for left := 8*n + 6; left > 0; {
		k := 1 + r.Intn(left)
		if r.Intn(2) == 0 {
			k = min(k, 1+r.Intn(8))
		}
		inRun := len(l) > 0 && l[len(l)-1].Kind == 0
		switch {
		case !inRun && (k == 1 || k > 257 || r.Intn(2) == 0):
			l = append(l, run(k))
		case k >= 2 && k <= 257 && left-k != 1:
			o := opt(2+r.Intn(254), make([]byte, k-2)...)
			r.Read(o.Data)
			l = append(l, o)
		case inRun:
			k = 1
			l[len(l)-1] = run(len(l[len(l)-1].Data) + 1)
		default:
			continue
		}
		left -= k
	}
	return l
}

// someExts are extension headers that may be.
func someExts(r *rand.Rand, hop bool) []api.Ext {
	var l []api.Ext
	k := r.Intn(4)
	if r.Intn(8) == 0 {
		k = 8
	}
	for i := range k {
		n := r.Intn(4)
		if r.Intn(20) == 0 {
			n = r.Intn(256)
		}
		switch c := r.Intn(3); {
		case c == 0 && hop && i == 0:
			l = append(l, options(0, someOpts(r, n)...))
		case c == 1:
			x := routes(make([]byte, 8*n+6)...)
			r.Read(x.Data)
			l = append(l, x)
		default:
			l = append(l, options(60, someOpts(r, n)...))
		}
	}
	return l
}

// someUpper is the kind of an upper layer.
func someUpper(r *rand.Rand) int {
	for {
		if k := r.Intn(256); k != 0 && k != 43 && k != 44 && k != 60 {
			return k
		}
	}
}

// someDatagram is one that may be.
func someDatagram(r *rand.Rand) api.Ip6 {
	h := api.Ip6{Class: r.Intn(256), Flow: r.Intn(1 << 20), Hop: r.Intn(256), Next: someUpper(r), Exts: someExts(r, true)}
	h.Src.V, h.Dst.V = 6, 6
	r.Read(h.Src.A[:])
	r.Read(h.Dst.A[:])
	h.Data = make([]byte, r.Intn(60))
	if r.Intn(2) == 0 {
		h.Next = r.Intn(256)
		h.Frag = api.Frag{Has: true, More: r.Intn(2) == 0, ID: int(r.Uint32()), Off: 8 * r.Intn(8000)}
		h.Data = make([]byte, 8+8*r.Intn(8))
		if !h.Frag.More {
			h.Data = make([]byte, 1+r.Intn(60))
		}
	}
	r.Read(h.Data)
	return h
}

// roomy is b with spare room behind it, and that room with it.
func roomy(b []byte) (part, whole []byte) {
	whole = slices.Concat(b, []byte("the room behind it, which is nobody's but the caller's own: not read and not written into"))
	return whole[:len(b)], whole
}
