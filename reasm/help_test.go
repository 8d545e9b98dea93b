package reasm_test

import (
	"fmt"
	"testing"

	"weir/api"
	"weir/reasm"
)

func four(last byte) api.IP { return api.IP{V: 4, A: [16]byte{10, 0, 0, last}} }

func six(last byte) api.IP { return api.IP{V: 6, A: [16]byte{0x20, 1, 15: last}} }

// at4 is a fragment of the IPv4 datagram with that id: data at byte off.
func at4(id, off int, data []byte, more bool) api.Ip4 {
	return api.Ip4{ID: id, MF: more, Off: off, TTL: 64, Proto: 17, Src: four(1), Dst: four(2), Data: data}
}

// at6 is a fragment of the IPv6 datagram with that id.
func at6(id, off int, data []byte, more bool) api.Ip6 {
	return api.Ip6{Hop: 64, Src: six(1), Dst: six(2), Frag: api.Frag{Has: true, More: more, ID: id, Off: off}, Next: 17, Data: data}
}

// bytesFrom are n bytes of which each tells its place.
func bytesFrom(off, n int) []byte {
	b := make([]byte, n)
	for i := range b {
		b[i] = byte(off+i) ^ byte((off+i)>>8)
	}
	return b
}

// part4 is a fragment whose bytes tell their places; so is part6.
func part4(id, off, n int, more bool) api.Ip4 { return at4(id, off, bytesFrom(off, n), more) }

func part6(id, off, n int, more bool) api.Ip6 { return at6(id, off, bytesFrom(off, n), more) }

// run is n times the same byte.
func run(v byte, n int) []byte {
	b := make([]byte, n)
	for i := range b {
		b[i] = v
	}
	return b
}

func table(t *testing.T, max, ticks int) *reasm.Table {
	t.Helper()
	x, e := reasm.New(max, ticks)
	if x == nil || e != api.OK {
		t.Fatalf("New(%d, %d) = %v, %d", max, ticks, x, e)
	}
	return x
}

// text tells a value with nil and empty lists as the same.
func text(v any) string { return fmt.Sprintf("%+v", v) }

// brief is as much of a text as a message needs.
func brief(v any) string { return fmt.Sprintf("%.300s", text(v)) }

// held4 offers a fragment that must be held.
func held4(t *testing.T, x *reasm.Table, h api.Ip4) {
	t.Helper()
	if y, o, e := x.Offer4(h); text(y) != text(api.Ip4{}) || o != api.OHeld || e != api.OK {
		t.Errorf("Offer4(%s) = %s, %d, %d, want it held", brief(h), brief(y), o, e)
	}
}

// whole4 offers what must make the datagram whole.
func whole4(t *testing.T, x *reasm.Table, h, want api.Ip4) {
	t.Helper()
	if y, o, e := x.Offer4(h); text(y) != text(want) || o != api.OWhole || e != api.OK {
		t.Errorf("Offer4(%s) = %s, %d, %d, want the whole %s", brief(h), brief(y), o, e, brief(want))
	}
}

// no4 offers what must be refused.
func no4(t *testing.T, x *reasm.Table, h api.Ip4, want api.Errno) {
	t.Helper()
	if y, o, e := x.Offer4(h); text(y) != text(api.Ip4{}) || o != 0 || e != want {
		t.Errorf("Offer4(%s) = %s, %d, %d, want the error %d", brief(h), brief(y), o, e, want)
	}
}

func held6(t *testing.T, x *reasm.Table, h api.Ip6) {
	t.Helper()
	if y, id, o, e := x.Offer6(h); text(y) != text(api.Ip6{}) || id != 0 || o != api.OHeld || e != api.OK {
		t.Errorf("Offer6(%s) = %s, %d, %d, %d, want it held", brief(h), brief(y), id, o, e)
	}
}

func whole6(t *testing.T, x *reasm.Table, h, want api.Ip6, wantID int) {
	t.Helper()
	if y, id, o, e := x.Offer6(h); text(y) != text(want) || id != wantID || o != api.OWhole || e != api.OK {
		t.Errorf("Offer6(%s) = %s, %d, %d, %d, want the whole %s, %d", brief(h), brief(y), id, o, e, brief(want), wantID)
	}
}

func no6(t *testing.T, x *reasm.Table, h api.Ip6, want api.Errno) {
	t.Helper()
	if y, id, o, e := x.Offer6(h); text(y) != text(api.Ip6{}) || id != 0 || o != 0 || e != want {
		t.Errorf("Offer6(%s) = %s, %d, %d, %d, want the error %d", brief(h), brief(y), id, o, e, want)
	}
}

// counts holds what a table tells of itself against live, held, finished.
func counts(t *testing.T, x *reasm.Table, live, held, finished int) {
	t.Helper()
	if x.Live() != live || x.Held() != held || x.Finished() != finished {
		t.Errorf("Live, Held, Finished = %d, %d, %d, want %d, %d, %d", x.Live(), x.Held(), x.Finished(), live, held, finished)
	}
}

// ticked holds what the next Tick tells against a list.
func ticked(t *testing.T, x *reasm.Table, want ...api.Late) {
	t.Helper()
	if l := x.Tick(); text(l) != text(want) {
		t.Errorf("Tick() = %s, want %s", brief(l), brief(want))
	}
}

// late4 is what is told of an IPv4 context with that head; late6 of an IPv6 one; lost of one without.
func late4(frags int, head api.Ip4) api.Late {
	return api.Late{V: 4, Frags: frags, First: true, H4: head}
}

func late6(frags int, head api.Ip6) api.Late {
	return api.Late{V: 6, Frags: frags, First: true, H6: head}
}

func lost(v, frags int) api.Late { return api.Late{V: v, Frags: frags} }

// joined4 is what comes of a head and all the bytes.
func joined4(head api.Ip4, data []byte) api.Ip4 {
	head.MF, head.Off, head.Data = false, 0, data
	return head
}

// joined6 is what comes of a head behind whose Fragment header no other header stands.
func joined6(head api.Ip6, data []byte) api.Ip6 {
	head.Frag, head.Data = api.Frag{}, data
	return head
}
