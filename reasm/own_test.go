package reasm_test

import (
	"testing"

	"weir/api"
)

// roomy is data with written spare room behind it.
func roomy(b []byte) []byte {
	return append(append(make([]byte, 0, len(b)+16), b...), run(0xee, 16)...)[:len(b)]
}

// smear writes into data and the room behind it.
func smear(b []byte) {
	b = b[:cap(b)]
	for i := range b {
		b[i] ^= 0xff
	}
}

func smearOpts(l []api.Opt) {
	l = l[:cap(l)]
	for i := range l {
		smear(l[i].Data)
		l[i].Kind = -1
	}
}

func smear4(h api.Ip4) {
	smearOpts(h.Opts)
	smear(h.Data)
}

func smear6(h api.Ip6) {
	for i, x := range h.Exts[:cap(h.Exts)] {
		smearOpts(x.Opts)
		smear(x.Data)
		h.Exts[:cap(h.Exts)][i] = api.Ext{Kind: -1}
	}
	smear(h.Data)
}

// all4 tells a datagram with the room behind its lists; so does all6.
func all4(h api.Ip4) string { return text(h) + allOpts(h.Opts) + text(h.Data[:cap(h.Data)]) }

func all6(h api.Ip6) string {
	s := text(h) + text(h.Data[:cap(h.Data)])
	for _, x := range h.Exts[:cap(h.Exts)] {
		s += text(x) + allOpts(x.Opts) + text(x.Data[:cap(x.Data)])
	}
	return s
}

func allOpts(l []api.Opt) string {
	s := ""
	for _, o := range l[:cap(l)] {
		s += text(o) + text(o.Data[:cap(o.Data)])
	}
	return s
}

// rich4 is a fragment with lists that have room behind them; so is rich6.
func rich4(id, off, n int, more bool) api.Ip4 {
	h := at4(id, off, roomy(bytesFrom(off, n)), more)
	h.Opts = append(make([]api.Opt, 0, 4), api.Opt{Kind: 7, Data: roomy([]byte{4})}, api.Opt{Kind: 131, Data: roomy([]byte{4, 0})})
	return h
}

func rich6(id, off, n int, more bool) api.Ip6 {
	h := at6(id, off, roomy(bytesFrom(off, n)), more)
	opts := append(make([]api.Opt, 0, 4), api.Opt{Kind: 5, Data: roomy([]byte{9, 9})}, api.Opt{Kind: 0, Data: roomy([]byte{0, 0})})
	h.Exts = append(make([]api.Ext, 0, 4), api.Ext{Kind: 0, Opts: opts}, api.Ext{Kind: 43, Data: roomy([]byte{1, 2, 3, 4, 5, 6})})
	return h
}

// inner6 is a fragment with offset 0 in which a destination header and a routing header stand behind the Fragment header.
func inner6(id int, more bool) api.Ip6 {
	h := rich6(id, 0, 0, more)
	h.Next, h.Data = 60, roomy([]byte{43, 0, 5, 2, 8, 8, 1, 0, 17, 0, 6, 5, 4, 3, 2, 1, 1, 2, 3, 4, 5, 6, 7, 8})
	return h
}

// joinedInner6 is what comes of inner6 and the bytes behind it.
func joinedInner6(id int, behind ...byte) api.Ip6 {
	h := rich6(id, 0, 0, false)
	h.Frag, h.Next, h.Data = api.Frag{}, 17, append([]byte{1, 2, 3, 4, 5, 6, 7, 8}, behind...)
	h.Exts = append(h.Exts, api.Ext{Kind: 60, Opts: []api.Opt{{Kind: 5, Data: []byte{8, 8}}, {Kind: 0, Data: []byte{0, 0}}}}, api.Ext{Kind: 43, Data: []byte{6, 5, 4, 3, 2, 1}})
	return h
}

// 12.8: nothing that is handed in is changed, nor the room behind it; nor kept: it is written into as soon as a call is over.
func TestHandedIn4(t *testing.T) {
	x := table(t, 3, 1)
	use := func(h api.Ip4, outcome int, want api.Errno) api.Ip4 {
		t.Helper()
		ahead := all4(h)
		y, o, e := x.Offer4(h)
		if o != outcome || e != want {
			t.Errorf("Offer4(%s): %d, %d, want %d, %d", brief(h), o, e, outcome, want)
		}
		if all4(h) != ahead {
			t.Errorf("Offer4(%s) has changed it", brief(h))
		}
		smear4(h)
		return y
	}
	use(rich4(1, 8, 8, true), api.OHeld, api.OK)
	use(rich4(2, 0, 8, true), api.OHeld, api.OK)
	use(rich4(1, 0, 8, true), api.OHeld, api.OK)
	use(rich4(1, 0, 8, true), 0, api.ErrDuplicate)
	use(rich4(1, 8, 8, true), 0, api.ErrDuplicate)
	y := use(rich4(1, 16, 3, false), api.OWhole, api.OK)
	if want := joined4(rich4(1, 0, 8, true), bytesFrom(0, 19)); text(y) != text(want) {
		t.Errorf("whole is %s, want %s", brief(y), brief(want))
	}
	use(rich4(1, 16, 3, false), 0, api.ErrFinished)
	ticked(t, x, late4(1, rich4(2, 0, 8, true)))
}

// 12.8
func TestHandedIn6(t *testing.T) {
	x := table(t, 4, 1)
	use := func(h api.Ip6, outcome int, want api.Errno) api.Ip6 {
		t.Helper()
		ahead := all6(h)
		y, _, o, e := x.Offer6(h)
		if o != outcome || e != want {
			t.Errorf("Offer6(%s): %d, %d, want %d, %d", brief(h), o, e, outcome, want)
		}
		if all6(h) != ahead {
			t.Errorf("Offer6(%s) has changed it", brief(h))
		}
		told := text(y)
		if h.Frag.More || h.Frag.Off > 0 { // else windows of h may be answered
			smear6(h)
		}
		if text(y) != told {
			t.Errorf("Offer6(%s) answers memory that was handed in", brief(h))
		}
		return y
	}
	use(inner6(2, true), api.OHeld, api.OK)
	use(inner6(1, true), api.OHeld, api.OK)
	use(inner6(1, true), 0, api.ErrDuplicate)
	use(rich6(3, 0, 8, true), api.OHeld, api.OK)
	use(rich6(3, 0, 16, true), 0, api.ErrOverlap)
	if y, want := use(rich6(1, 24, 3, false), api.OWhole, api.OK), joinedInner6(1, bytesFrom(24, 3)...); text(y) != text(want) {
		t.Errorf("whole is %s, want %s", brief(y), brief(want))
	}
	if y, want := use(inner6(1, false), api.OWhole, api.OK), joinedInner6(1); text(y) != text(want) {
		t.Errorf("whole is %s, want %s", brief(y), brief(want))
	}
	use(rich6(1, 24, 3, false), 0, api.ErrFinished)
	ticked(t, x, late6(1, inner6(2, true)), lost(6, 1))
}

// 12.8: of a fragment that is whole by itself the Exts that are h's own are new memory.
func TestAtomicOwn6(t *testing.T) {
	x := table(t, 1, 1)
	h := inner6(1, false)
	y, _, _, e := x.Offer6(h)
	ahead := all6(h)
	for i, ext := range y.Exts[:2] {
		smearOpts(ext.Opts)
		smear(ext.Data)
		y.Exts[i].Kind = -1
	}
	if e != api.OK || all6(h) != ahead {
		t.Errorf("%d; its Exts are those that were handed in", e)
	}
}

// 12.8: whoever writes into an answer changes nothing: not the table, not what it tells later, not another list of the same
// answer.
func TestAnswers(t *testing.T) {
	for range 2 {
		x := table(t, 4, 1)
		first, last := rich4(1, 0, 8, true), rich4(1, 8, 8, false)
		held4(t, x, first)
		y, _, _ := x.Offer4(last)
		want := joined4(rich4(1, 0, 8, true), bytesFrom(0, 16))
		smear(y.Opts[0].Data)
		smear(y.Opts[1].Data)
		if string(y.Data) != string(want.Data) || all4(first) != all4(rich4(1, 0, 8, true)) {
			t.Error("the lists of one answer share memory, or share it with what was handed in")
		}
		smear(y.Data)
		if all4(first) != all4(rich4(1, 0, 8, true)) || all4(last) != all4(rich4(1, 8, 8, false)) {
			t.Error("an answer's Data is what was handed in")
		}
		held6(t, x, inner6(2, true))
		z, _, _, _ := x.Offer6(rich6(2, 24, 3, false))
		for i := range z.Exts {
			smearOpts(z.Exts[i].Opts)
			smear(z.Exts[i].Data)
		}
		if string(z.Data) != string(joinedInner6(2, bytesFrom(24, 3)...).Data) {
			t.Error("the lists of one answer share memory")
		}
		held4(t, x, rich4(3, 0, 8, true))
		held6(t, x, rich6(4, 0, 8, true))
		l := x.Tick()
		if len(l) != 2 {
			t.Fatalf("Tick() = %s", brief(l))
		}
		smear4(l[0].H4)
		if text(l[1]) != text(late6(1, rich6(4, 0, 8, true))) {
			t.Error("what one Tick tells shares memory")
		}
		smear6(l[1].H6)
	}
}

// 12.8: an open context's head is not what was handed in, when it is told; and telling it twice is not possible.
func TestHeadOwn(t *testing.T) {
	x := table(t, 4, 1)
	h4, h6 := rich4(3, 0, 8, true), rich6(4, 0, 8, true)
	held4(t, x, h4)
	held6(t, x, h6)
	l := x.Tick()
	smear4(l[0].H4)
	smear6(l[1].H6)
	if all4(h4) != all4(rich4(3, 0, 8, true)) || all6(h6) != all6(rich6(4, 0, 8, true)) {
		t.Error("what Tick tells is what was handed in")
	}
	ticked(t, x)
}
