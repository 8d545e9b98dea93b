package split_test

import (
	"fmt"
	"slices"
	"testing"

	"weir/api"
	"weir/ip4"
	"weir/ip6"
	"weir/split"
)

// count are n bytes of which each tells its place.
func count(n int) []byte {
	b := make([]byte, n)
	for i := range b {
		b[i] = byte(i) ^ byte(i>>8)
	}
	return b
}

// four is an IPv4 datagram of n bytes and these options; each field has a value of its own.
func four(n int, opts ...api.Opt) api.Ip4 {
	return api.Ip4{
		Tos: 3, ID: 7, TTL: 64, Proto: 17,
		Src: api.IP{V: 4, A: [16]byte{10, 0, 0, 1}}, Dst: api.IP{V: 4, A: [16]byte{10, 0, 0, 2}},
		Opts: opts, Data: count(n),
	}
}

// six is an IPv6 datagram of n bytes behind these extension headers.
func six(n int, exts ...api.Ext) api.Ip6 {
	return api.Ip6{
		Class: 3, Flow: 9, Hop: 64, Next: 17,
		Src: api.IP{V: 6, A: [16]byte{0x20, 1, 15: 1}}, Dst: api.IP{V: 6, A: [16]byte{0x20, 1, 15: 2}},
		Exts: exts, Data: count(n),
	}
}

// opt is an option of IPv4 of so many bytes in all.
func opt(kind, size int) api.Opt { return api.Opt{Kind: kind, Data: count(size - 2)} }

// hop, dst and way are extension headers of the kinds 0, 60 and 43 of so many bytes in all.
func hop(size int) api.Ext { return api.Ext{Kind: 0, Opts: padding(size)} }

func dst(size int) api.Ext { return api.Ext{Kind: 60, Opts: padding(size)} }

func way(size int) api.Ext { return api.Ext{Kind: 43, Data: count(size - 2)} }

func padding(size int) []api.Opt {
	return []api.Opt{{Kind: 5, Data: []byte{9, 9}}, {Kind: 0, Data: make([]byte, size-6)}}
}

// text tells a value with nil and empty lists as the same.
func text(v any) string { return fmt.Sprintf("%+v", v) }

// brief is as much of a text as a message needs.
func brief(v any) string { return fmt.Sprintf("%.300s", text(v)) }

// size4 is the length of a datagram, as the chapter says it; so is size6.
func size4(t *testing.T, h api.Ip4) int {
	t.Helper()
	b, e := ip4.Serialise(h)
	if e != api.OK {
		t.Fatalf("%s is no datagram: %d", brief(h), e)
	}
	return len(b)
}

func size6(t *testing.T, h api.Ip6) int {
	t.Helper()
	b, e := ip6.Serialise(h)
	if e != api.OK {
		t.Fatalf("%s is no datagram: %d", brief(h), e)
	}
	return len(b)
}

// part4 is the piece of h with the bytes from one place to another; so is part6, of what is cut of h behind some headers.
func part4(h api.Ip4, from, to int, more bool, opts ...api.Opt) api.Ip4 {
	h.Off, h.MF, h.Opts, h.Data = h.Off+from, more, opts, h.Data[from:to]
	return h
}

func part6(h api.Ip6, all []byte, next, id, from, to int, more bool, exts ...api.Ext) api.Ip6 {
	h.Frag = api.Frag{Has: true, ID: id, Off: from, More: more}
	h.Exts, h.Next, h.Data = exts, next, all[from:to]
	return h
}

func chain(t *testing.T, h api.Ip6, exts ...api.Ext) []byte {
	t.Helper()
	b, e := ip6.PutChain(exts, h.Next)
	if e != api.OK {
		t.Fatalf("no chain: %d", e)
	}
	return slices.Concat(b, h.Data)
}

// yes4 cuts what must give these pieces; so does yes6.
func yes4(t *testing.T, h api.Ip4, mtu int, want ...api.Ip4) {
	t.Helper()
	if l, e := split.Split4(h, mtu); text(l) != text(want) || e != api.OK {
		t.Errorf("Split4(%s, %d) =\n%.2000s, %d, want\n%.2000s", brief(h), mtu, text(l), e, text(want))
	}
}

func yes6(t *testing.T, h api.Ip6, mtu, id int, want ...api.Ip6) {
	t.Helper()
	if l, e := split.Split6(h, mtu, id); text(l) != text(want) || e != api.OK {
		t.Errorf("Split6(%s, %d, %d) = %s, %d, want %s", brief(h), mtu, id, brief(l), e, brief(want))
	}
}

// no4 cuts what must be refused; so does no6.
func no4(t *testing.T, h api.Ip4, mtu int, want api.Errno) {
	t.Helper()
	if l, e := split.Split4(h, mtu); len(l) != 0 || e != want {
		t.Errorf("Split4(%s, %d) = %s, %d, want the error %d", brief(h), mtu, brief(l), e, want)
	}
}

func no6(t *testing.T, h api.Ip6, mtu, id int, want api.Errno) {
	t.Helper()
	if l, e := split.Split6(h, mtu, id); len(l) != 0 || e != want {
		t.Errorf("Split6(%s, %d, %d) = %s, %d, want the error %d", brief(h), mtu, id, brief(l), e, want)
	}
}
