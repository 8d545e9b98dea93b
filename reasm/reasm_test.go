package reasm_test

import (
	"testing"

	"weir/api"
	"weir/reasm"
)

// 12.1
func TestNew(t *testing.T) {
	for _, c := range [][2]int{{0, 1}, {-1, 1}, {257, 1}, {1 << 62, 1}, {1, 0}, {1, -1}, {1, 1<<20 + 1}, {1, 1 << 62}, {0, 0}} {
		if x, e := reasm.New(c[0], c[1]); x != nil || e != api.ErrArg {
			t.Errorf("New(%d, %d) = %v, %d, want ErrArg", c[0], c[1], x, e)
		}
	}
	for _, c := range [][2]int{{1, 1}, {256, 1}, {1, 1 << 20}, {256, 1 << 20}} {
		counts(t, table(t, c[0], c[1]), 0, 0, 0)
	}
}

// 12.1
func TestTablesApart(t *testing.T) {
	x, y := table(t, 2, 2), table(t, 2, 2)
	held4(t, x, part4(7, 0, 8, true))
	counts(t, y, 0, 0, 0)
	held4(t, y, part4(7, 8, 8, false))
	whole4(t, x, part4(7, 8, 8, false), joined4(part4(7, 0, 8, true), bytesFrom(0, 16)))
	counts(t, y, 1, 1, 0)
	ticked(t, x)
	ticked(t, x)
	counts(t, x, 0, 0, 0)
	counts(t, y, 1, 1, 0)
}

// 12.1, 12.11: as many contexts as were asked for, and not one more.
func TestMax(t *testing.T) {
	for _, max := range []int{1, 2, 255, 256} {
		x := table(t, max, 1)
		for id := range max {
			held4(t, x, part4(id, 0, 8, true))
		}
		no4(t, x, part4(max, 0, 8, true), api.ErrTable)
		no6(t, x, part6(1, 0, 8, true), api.ErrTable)
		counts(t, x, max, max, 0)
	}
}

// The table of the chapter's section Examples.
func TestExamples(t *testing.T) {
	a := func(off, n int, more bool) api.Ip4 { return part4(7, off, n, more) }
	b, c := part4(8, 0, 8, true), part4(9, 0, 8, true)
	x := table(t, 2, 3)
	plain := at4(7, 0, []byte("plain"), false)
	whole4(t, x, plain, plain)
	held4(t, x, at4(7, 8, run('x', 8), true))
	no4(t, x, at4(7, 8, run('x', 8), true), api.ErrDuplicate)
	no4(t, x, a(8, 8, true), api.ErrDuplicate)
	held4(t, x, a(16, 4, false))
	no4(t, x, a(16, 12, false), api.ErrBeyond)
	no4(t, x, a(24, 8, true), api.ErrBeyond)
	held4(t, x, b)
	no4(t, x, c, api.ErrTable)
	counts(t, x, 2, 3, 0)
	data := bytesFrom(0, 20)
	copy(data[8:], run('x', 8))
	whole4(t, x, a(0, 16, true), joined4(a(0, 16, true), data))
	counts(t, x, 2, 1, 1)
	no4(t, x, a(0, 8, true), api.ErrFinished)
	held4(t, x, c)
	no4(t, x, a(0, 8, true), api.ErrTable)
	ticked(t, x)
	ticked(t, x)
	ticked(t, x, late4(1, b), late4(1, c))
	counts(t, x, 0, 0, 0)
}

// 12.6: a context lasts from its first fragment on, whatever comes later; those that end in one Tick are told as they began.
func TestTime(t *testing.T) {
	for _, ticks := range []int{1, 2, 7} {
		x := table(t, 9, ticks)
		held6(t, x, part6(4, 0, 8, true))
		held4(t, x, part4(9, 0, 8, true))
		for range ticks - 1 {
			ticked(t, x)
		}
		held4(t, x, part4(9, 8, 8, true))
		held4(t, x, part4(1, 8, 8, true))
		counts(t, x, 3, 4, 0)
		if ticks == 1 {
			ticked(t, x, late6(1, part6(4, 0, 8, true)), late4(2, part4(9, 0, 8, true)), lost(4, 1))
			counts(t, x, 0, 0, 0)
			continue
		}
		ticked(t, x, late6(1, part6(4, 0, 8, true)), late4(2, part4(9, 0, 8, true)))
		counts(t, x, 1, 1, 0)
		held4(t, x, part4(9, 8, 8, true))
		for range ticks - 2 {
			ticked(t, x)
		}
		ticked(t, x, lost(4, 1))
		counts(t, x, 1, 1, 0)
		ticked(t, x, lost(4, 1))
		counts(t, x, 0, 0, 0)
	}
}

// 12.1, 12.6: the longest time.
func TestLongestTime(t *testing.T) {
	x := table(t, 1, api.MaxAge)
	held4(t, x, part4(1, 0, 8, true))
	for range api.MaxAge - 1 {
		if l := x.Tick(); len(l) != 0 {
			t.Fatal("too early")
		}
	}
	ticked(t, x, late4(1, part4(1, 0, 8, true)))
	counts(t, x, 0, 0, 0)
}

// 12.6: told are open ones with their head or without, and spoilt ones without; the order is that in which they began, not
// that of their keys or of their last fragments.
func TestLate(t *testing.T) {
	x := table(t, 8, 2)
	held4(t, x, part4(50, 8, 8, true))   // no head
	held6(t, x, part6(40, 0, 16, true))  // to be spoilt by an overlap
	held4(t, x, part4(30, 0, 8, true))   // to be finished
	held6(t, x, part6(20, 16, 8, true))  // no head
	held4(t, x, part4(10, 0, 16, true))  // a head
	held6(t, x, part6(60, 24, 1, false)) // a head behind it
	no6(t, x, part6(40, 8, 8, true), api.ErrOverlap)
	whole4(t, x, part4(30, 8, 1, false), joined4(part4(30, 0, 8, true), bytesFrom(0, 9)))
	held6(t, x, part6(60, 0, 8, true))
	held4(t, x, part4(10, 16, 8, true))
	held4(t, x, part4(10, 0, 32, true)) // offset 0 too, but not the first
	counts(t, x, 6, 8, 1)
	ticked(t, x)
	held4(t, x, part4(70, 0, 8, true))
	ticked(t, x, lost(4, 1), lost(6, 1), lost(6, 1), late4(3, part4(10, 0, 16, true)), late6(2, part6(60, 0, 8, true)))
	counts(t, x, 1, 1, 0)
	ticked(t, x, late4(1, part4(70, 0, 8, true)))
	ticked(t, x)
}

// 12.6: a finished or spoilt context stands for its key till its time is over, and no longer.
func TestClosedTime(t *testing.T) {
	x := table(t, 8, 2)
	held4(t, x, part4(1, 0, 8, true))
	held6(t, x, part6(2, 0, 8, true))
	ticked(t, x)
	whole4(t, x, part4(1, 8, 8, false), joined4(part4(1, 0, 8, true), bytesFrom(0, 16)))
	no6(t, x, at6(2, 0, run(9, 8), true), api.ErrOverlap)
	no4(t, x, part4(1, 8, 8, false), api.ErrFinished)
	no6(t, x, part6(2, 8, 8, false), api.ErrOverlap)
	counts(t, x, 2, 1, 1)
	ticked(t, x, lost(6, 1))
	counts(t, x, 0, 0, 0)
	held4(t, x, part4(1, 8, 8, false))
	held6(t, x, part6(2, 8, 8, false))
	whole6(t, x, part6(2, 0, 8, true), joined6(part6(2, 0, 8, true), bytesFrom(0, 16)), 2)
	whole4(t, x, part4(1, 0, 8, true), joined4(part4(1, 0, 8, true), bytesFrom(0, 16)))
	counts(t, x, 2, 0, 2)
	ticked(t, x)
	ticked(t, x)
	counts(t, x, 0, 0, 0)
}

// 12.3.7, 12.5.8: of several finished contexts that one gives way that began first, not the one that finished first; open
// and spoilt ones stay, those of the other version give way too.
func TestGiveWay(t *testing.T) {
	x := table(t, 5, 1)
	held4(t, x, part4(1, 0, 8, true))
	held6(t, x, part6(2, 0, 8, true))
	held6(t, x, part6(3, 0, 8, true))
	held4(t, x, part4(4, 0, 8, true))
	held6(t, x, part6(5, 0, 8, true))
	no6(t, x, at6(2, 0, run(9, 8), true), api.ErrOverlap)
	whole6(t, x, part6(5, 8, 8, false), joined6(part6(5, 0, 8, true), bytesFrom(0, 16)), 5)
	whole4(t, x, part4(4, 8, 8, false), joined4(part4(4, 0, 8, true), bytesFrom(0, 16)))
	whole6(t, x, part6(3, 8, 8, false), joined6(part6(3, 0, 8, true), bytesFrom(0, 16)), 3)
	counts(t, x, 5, 2, 3)
	held4(t, x, part4(6, 0, 8, true)) // 3 gives way
	counts(t, x, 5, 3, 2)
	no4(t, x, part4(4, 0, 8, true), api.ErrFinished)
	no6(t, x, part6(5, 0, 8, true), api.ErrFinished)
	no6(t, x, part6(2, 8, 8, true), api.ErrOverlap)
	held6(t, x, part6(3, 0, 8, true)) // 4 gives way
	no6(t, x, part6(5, 0, 8, true), api.ErrFinished)
	held4(t, x, part4(4, 0, 8, true)) // 5 gives way
	counts(t, x, 5, 5, 0)
	no6(t, x, part6(5, 0, 8, true), api.ErrTable)
	ticked(t, x, late4(1, part4(1, 0, 8, true)), lost(6, 1), late4(1, part4(6, 0, 8, true)), late6(1, part6(3, 0, 8, true)), late4(1, part4(4, 0, 8, true)))
}

// 12.4: what is refused, or nothing new, drives none out and makes no context.
func TestRefusedDrivesNoneOut(t *testing.T) {
	x := table(t, 2, 3)
	held4(t, x, part4(1, 0, 8, true))
	whole4(t, x, part4(1, 8, 8, false), joined4(part4(1, 0, 8, true), bytesFrom(0, 16)))
	held6(t, x, part6(2, 0, 8, true))
	no4(t, x, part4(3, 8, 0, false), api.ErrNothing)
	no6(t, x, part6(3, 65488, 8, true), api.ErrBeyond)
	no6(t, x, part6(3, 65488, 8, false), api.ErrBeyond)
	no6(t, x, part6(2, 0, 8, true), api.ErrDuplicate)
	no6(t, x, at6(2, 8, nil, false), api.ErrFrag6)
	no4(t, x, part4(3, 8, 7, true), api.ErrIp4Frag)
	counts(t, x, 2, 1, 1)
	no4(t, x, part4(1, 0, 8, true), api.ErrFinished)
	held4(t, x, part4(3, 8, 8, false))
	counts(t, x, 2, 2, 0)
}

// A table that is full still takes fragments of the contexts that it has, and what is whole by itself.
func TestFull(t *testing.T) {
	x := table(t, 2, 3)
	held4(t, x, part4(1, 0, 8, true))
	held6(t, x, part6(1, 0, 8, true))
	no4(t, x, part4(2, 0, 8, true), api.ErrTable)
	no6(t, x, part6(2, 0, 8, true), api.ErrTable)
	held4(t, x, part4(1, 8, 8, true))
	held6(t, x, part6(1, 8, 8, true))
	whole4(t, x, part4(2, 0, 8, false), part4(2, 0, 8, false))
	whole6(t, x, part6(2, 0, 8, false), joined6(part6(2, 0, 8, false), bytesFrom(0, 8)), 2)
	whole4(t, x, part4(1, 16, 8, false), joined4(part4(1, 0, 8, true), bytesFrom(0, 24)))
	no4(t, x, part4(1, 24, 8, false), api.ErrFinished)
	held6(t, x, part6(2, 0, 8, true))
	no4(t, x, part4(1, 24, 8, false), api.ErrTable)
}
