package reasm_test

import (
	"testing"

	"weir/api"
)

// 12.3.1: first of all the error of ip4.Check, of what is no fragment too, and of one whose context is closed.
func TestCheck4(t *testing.T) {
	x := table(t, 2, 2)
	held4(t, x, part4(1, 0, 8, true))
	whole4(t, x, part4(1, 8, 8, false), joined4(part4(1, 0, 8, true), bytesFrom(0, 16)))
	for _, id := range []int{1, 2} {
		odd, ttl, far, kind, src := part4(id, 8, 7, true), part4(id, 8, 8, true), part4(id, 65512, 8, false), part4(id, 8, 8, true), part4(id, 8, 8, true)
		ttl.TTL, kind.Opts, src.Src = 256, []api.Opt{{Kind: 1}}, six(1)
		no4(t, x, odd, api.ErrIp4Frag)
		no4(t, x, far, api.ErrIp4Frag)
		no4(t, x, at4(id, 8, nil, true), api.ErrIp4Frag)
		no4(t, x, ttl, api.ErrIp4Field)
		no4(t, x, kind, api.ErrIp4Option)
		no4(t, x, src, api.ErrIp4Field)
		no4(t, x, part4(id, 4, 8, true), api.ErrIp4Field)
		no4(t, x, at4(id, 0, make([]byte, 65516), false), api.ErrIp4Total)
	}
	no4(t, x, api.Ip4{}, api.ErrIp4Field)
	counts(t, x, 1, 0, 1)
}

// 12.3.2: what is no fragment is answered as it is, and no context is looked at.
func TestPlain4(t *testing.T) {
	x := table(t, 1, 2)
	plain := at4(1, 0, nil, false)
	plain.DF, plain.Tos, plain.Opts = true, 3, []api.Opt{{Kind: 7, Data: []byte{4}}}
	whole4(t, x, plain, plain)
	counts(t, x, 0, 0, 0)
	held4(t, x, part4(1, 8, 8, false))
	whole4(t, x, part4(1, 0, 8, false), part4(1, 0, 8, false))
	counts(t, x, 1, 1, 0)
	whole4(t, x, part4(1, 0, 8, true), joined4(part4(1, 0, 8, true), bytesFrom(0, 16)))
	whole4(t, x, part4(1, 0, 8, false), part4(1, 0, 8, false))
	counts(t, x, 1, 0, 1)
}

// 12.3: a key is source, destination, protocol and id, and nothing else.
func TestKey4(t *testing.T) {
	first := part4(1, 0, 8, true)
	var others [4]api.Ip4
	for i := range others {
		others[i] = part4(1, 8, 8, false)
	}
	others[0].Src, others[1].Dst, others[2].Proto, others[3].ID = four(3), four(3), 6, 2
	x := table(t, 9, 2)
	held4(t, x, first)
	for _, o := range others {
		held4(t, x, o)
	}
	back := part4(1, 8, 8, false)
	back.Src, back.Dst = first.Dst, first.Src
	held4(t, x, back)
	counts(t, x, 6, 6, 0)
	last := part4(1, 8, 8, false)
	last.Tos, last.TTL, last.DF, last.Opts = 9, 1, true, []api.Opt{{Kind: 131, Data: []byte{4}}}
	whole4(t, x, last, joined4(first, bytesFrom(0, 16)))
	counts(t, x, 6, 5, 1)
}

// 12.3.9: ID, DF, Tos, TTL and Opts are the head's, whenever it comes; the head is the first with offset 0 that was taken.
func TestHead4(t *testing.T) {
	head := part4(1, 0, 8, true)
	head.Tos, head.TTL, head.DF, head.Opts = 5, 77, true, []api.Opt{{Kind: 7, Data: []byte{4}}, {Kind: 131, Data: []byte{4, 0}}}
	other := part4(1, 0, 16, true)
	other.Tos, other.TTL, other.Opts = 6, 1, []api.Opt{{Kind: 9}}
	last := part4(1, 24, 3, false)
	last.Opts = []api.Opt{{Kind: 131, Data: []byte{9, 9}}}
	want := joined4(head, bytesFrom(0, 27))

	x := table(t, 1, 2)
	held4(t, x, head)
	held4(t, x, last)
	held4(t, x, other)
	whole4(t, x, part4(1, 16, 8, true), want)

	x = table(t, 1, 2)
	held4(t, x, last)
	held4(t, x, part4(1, 8, 16, true))
	whole4(t, x, head, want)

	x = table(t, 1, 2)
	held4(t, x, last)
	held4(t, x, other)
	no4(t, x, head, api.ErrDuplicate)
	whole4(t, x, part4(1, 16, 8, true), joined4(other, bytesFrom(0, 27)))
}

// 12.3.5: pieces that contradict the end, and one without a byte; each leaves all as it was.
func TestBeyond4(t *testing.T) {
	x := table(t, 1, 2)
	no4(t, x, at4(1, 8, nil, false), api.ErrNothing)
	counts(t, x, 0, 0, 0)
	held4(t, x, part4(1, 16, 8, true))
	no4(t, x, at4(1, 8, nil, false), api.ErrNothing)
	no4(t, x, part4(1, 8, 8, false), api.ErrBeyond)
	no4(t, x, part4(1, 16, 7, false), api.ErrBeyond)
	counts(t, x, 1, 1, 0)
	held4(t, x, part4(1, 24, 9, false))
	no4(t, x, part4(1, 24, 8, false), api.ErrBeyond)
	no4(t, x, part4(1, 24, 10, false), api.ErrBeyond)
	no4(t, x, part4(1, 32, 8, true), api.ErrBeyond)
	no4(t, x, part4(1, 0, 40, true), api.ErrBeyond)
	counts(t, x, 1, 2, 0)
	whole4(t, x, part4(1, 0, 32, true), joined4(part4(1, 0, 32, true), bytesFrom(0, 33)))
}

// 12.3.5: up to 65515 bytes may come.
func TestLongest4(t *testing.T) {
	x := table(t, 1, 2)
	held4(t, x, part4(1, 65512, 3, false))
	whole4(t, x, part4(1, 0, 65512, true), joined4(part4(1, 0, 65512, true), bytesFrom(0, 65515)))
}

// 12.3.6: nothing new, unless it tells an end that was not known.
func TestDuplicate4(t *testing.T) {
	x := table(t, 1, 2)
	held4(t, x, part4(1, 8, 16, true))
	no4(t, x, part4(1, 8, 16, true), api.ErrDuplicate)
	no4(t, x, part4(1, 8, 8, true), api.ErrDuplicate)
	no4(t, x, at4(1, 16, run(9, 8), true), api.ErrDuplicate)
	counts(t, x, 1, 1, 0)
	held4(t, x, at4(1, 16, run(9, 8), false))
	no4(t, x, at4(1, 16, run(9, 8), false), api.ErrDuplicate)
	no4(t, x, part4(1, 8, 16, false), api.ErrDuplicate)
	counts(t, x, 1, 2, 0)
	whole4(t, x, part4(1, 0, 8, true), joined4(part4(1, 0, 8, true), bytesFrom(0, 24)))

	x = table(t, 1, 2)
	held4(t, x, part4(1, 0, 16, true))
	whole4(t, x, at4(1, 8, run(9, 8), false), joined4(part4(1, 0, 16, true), bytesFrom(0, 16)))
}

// 12.3.4: 1024 fragments are held, and no other is looked at then, not even one that would be refused or is nothing new; one
// fewer, and the datagram can still be whole.
func TestFrags4(t *testing.T) {
	x := table(t, 2, 1)
	for i := range 1023 {
		held4(t, x, part4(1, 8*i, 8, true))
		held4(t, x, part4(2, 16*i, 8, true))
	}
	held4(t, x, part4(2, 16*1023, 8, true))
	for _, h := range []api.Ip4{part4(2, 8, 8, true), part4(2, 0, 8, true), part4(2, 8, 9, false), at4(2, 8, nil, false), part4(2, 16*1024, 1, false)} {
		no4(t, x, h, api.ErrFrags)
	}
	no4(t, x, part4(1, 0, 8, true), api.ErrDuplicate)
	counts(t, x, 2, 2047, 0)
	whole4(t, x, part4(1, 8*1023, 5, false), joined4(part4(1, 0, 8, true), bytesFrom(0, 8*1023+5)))
	counts(t, x, 2, 1024, 1)
	ticked(t, x, late4(1024, part4(2, 0, 8, true)))
}

// 12.3.9: too long with the head's options: spoilt, whichever of the fragments came last; it counts as it was till its time is
// over.
func TestSpoilt4(t *testing.T) {
	head := part4(1, 0, 65496, true)
	head.Opts = []api.Opt{{Kind: 7, Data: make([]byte, 2)}}
	for _, c := range [][2]api.Ip4{{head, part4(1, 65496, 16, false)}, {part4(1, 65496, 16, false), head}} {
		x := table(t, 1, 2)
		held4(t, x, c[0])
		no4(t, x, c[1], api.ErrBeyond)
		counts(t, x, 1, 1, 0)
		for _, h := range []api.Ip4{c[0], c[1], part4(1, 65496, 15, false), at4(1, 8, nil, false)} {
			no4(t, x, h, api.ErrBeyond)
		}
		no4(t, x, part4(2, 0, 8, true), api.ErrTable)
		ticked(t, x)
		counts(t, x, 1, 1, 0)
		ticked(t, x, lost(4, 1))
		counts(t, x, 0, 0, 0)
	}
	x := table(t, 1, 2)
	held4(t, x, head)
	whole4(t, x, part4(1, 65496, 15, false), joined4(head, bytesFrom(0, 65511)))
}

// 12.3.3: of a closed context nothing else is looked at.
func TestFinished4(t *testing.T) {
	x := table(t, 1, 2)
	held4(t, x, part4(1, 0, 8, true))
	whole4(t, x, part4(1, 8, 8, false), joined4(part4(1, 0, 8, true), bytesFrom(0, 16)))
	for _, h := range []api.Ip4{part4(1, 0, 8, true), part4(1, 8, 8, false), part4(1, 24, 8, true), at4(1, 8, nil, false)} {
		no4(t, x, h, api.ErrFinished)
	}
	counts(t, x, 1, 0, 1)
}
