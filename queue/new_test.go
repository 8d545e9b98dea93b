package queue_test

import (
	"math"
	"slices"
	"testing"

	"weir/api"
	"weir/queue"
)

// refusesNew wants a list of classes to be none of a queue.
func refusesNew(t *testing.T, classes []api.Class) {
	t.Helper()
	if q, e := queue.New(classes); q != nil || e != api.ErrQueue {
		t.Errorf("New(%+v) = %v, %d", classes, q, e)
	}
}

// 18.1: one to eight classes.
func TestHowManyClasses(t *testing.T) {
	refusesNew(t, nil)
	refusesNew(t, []api.Class{})
	for n := 1; n <= 8; n++ {
		q := made(t, slices.Repeat([]api.Class{open(100)}, n)...)
		for c := range n {
			pushes(t, q, c, 1, c)
		}
		refuses(t, q, n, 1, api.ErrClass)
	}
	refusesNew(t, slices.Repeat([]api.Class{open(100)}, 9))
	refusesNew(t, slices.Repeat([]api.Class{open(100)}, 5000))
}

// bound is a number of a class and what it may be, in a shaped class.
type bound struct {
	name      string
	low, high int
	set       func(c *api.Class, n int)
}

var bounds = []bound{
	{"Quantum", 64, 65535, func(c *api.Class, n int) { c.Quantum = n }},
	{"Items", 1, 4096, func(c *api.Class, n int) { c.Items = n }},
	{"Bytes", 1, 67108864, func(c *api.Class, n int) { c.Bytes = n }},
	{"Rate", 0, 67108864, func(c *api.Class, n int) { c.Rate = n }},
	{"Burst", 65535, 268435456, func(c *api.Class, n int) { c.Burst = n }},
}

// 18.1: each number at both ends and one past them, in whichever class it stands.
func TestBounds(t *testing.T) {
	for _, b := range bounds {
		for at := range 3 {
			list := func(n int) []api.Class {
				l := []api.Class{shaped(100, 1), shaped(100, 1), shaped(100, 1)}
				b.set(&l[at], n)
				return l
			}
			for _, n := range []int{b.low, b.low + 1, (b.low + b.high) / 2, b.high - 1, b.high} {
				if q, e := queue.New(list(n)); q == nil || e != api.OK {
					t.Errorf("%s %d in class %d: %v, %d", b.name, n, at, q, e)
				}
			}
			for _, n := range []int{math.MinInt, -b.high, b.low - 1, b.high + 1, 1 << 32, math.MaxInt} {
				refusesNew(t, list(n))
			}
		}
	}
	refusesNew(t, []api.Class{{}})
}

// 18.1: all numbers at their ends at once.
func TestEndsTogether(t *testing.T) {
	for mask := range 1 << len(bounds) {
		var c api.Class
		for i, b := range bounds {
			b.set(&c, []int{b.low, b.high}[mask>>i&1])
		}
		made(t, c)
	}
}

// 18.1, 18.3: without a rate the burst is not looked at, nor are there tokens to wait for.
func TestBurstWithoutRate(t *testing.T) {
	for _, burst := range []int{math.MinInt, -1, 0, 1, 65534, 1<<28 + 1, math.MaxInt} {
		c := open(100)
		c.Burst = burst
		q := made(t, c)
		for i := range 5 {
			pushes(t, q, 0, 65535, i)
		}
		for i := range 5 {
			q.Tick()
			pops(t, q, i, 0)
		}
		idles(t, q)
		c.Rate = 1
		refusesNew(t, []api.Class{c})
	}
}

// 18.1: a new queue has no item.
func TestNewIsEmpty(t *testing.T) {
	q := made(t, open(64), shaped(100, 5))
	idles(t, q)
	holds(t, q, load{}, load{})
	ticks(q, 3)
	idles(t, q)
	holds(t, q, load{}, load{})
}

// 18.1: the list is neither changed, nor its spare room, nor kept.
func TestListIsNotKept(t *testing.T) {
	room := []api.Class{{Quantum: 100, Items: 2, Bytes: 300, Rate: 7, Burst: 65535}, open(200), {Quantum: 9}, {Quantum: 8}}
	before := slices.Clone(room)
	q := made(t, room[:2]...)
	clear(room)
	pushes(t, q, 0, 100, 1)
	refuses(t, q, 0, 201, api.ErrQFull)
	pushes(t, q, 0, 200, 2)
	refuses(t, q, 0, 1, api.ErrQFull)
	pushes(t, q, 1, 200, 3)
	pops(t, q, 1, 0)
	pops(t, q, 3, 1)
	pops(t, q, 2, 0)
	copy(room, before)
	q = made(t, room[:2]...)
	pushes(t, q, 0, 1, 1)
	pops(t, q, 1, 0)
	q.Tick()
	if !slices.Equal(room, before) {
		t.Errorf("the list is %+v now, was %+v", room, before)
	}
}

// The chapter's examples.
func TestExamples(t *testing.T) {
	q := made(t, api.Class{Quantum: 100, Items: 3, Bytes: 1000}, api.Class{Quantum: 200, Items: 9, Bytes: 1000, Rate: 10, Burst: 65535})
	pushes(t, q, 0, 150, 1)
	pushes(t, q, 0, 50, 2)
	pushes(t, q, 1, 120, 3)
	pushes(t, q, 1, 120, 4)
	refuses(t, q, 2, 1, api.ErrClass)
	refuses(t, q, 0, 0, api.ErrSize)
	refuses(t, q, 0, 65536, api.ErrSize)
	refuses(t, q, 0, 801, api.ErrQFull)
	pushes(t, q, 0, 800, 5)
	refuses(t, q, 0, 1, api.ErrQFull)
	pops(t, q, 3, 1)
	pops(t, q, 1, 0)
	pops(t, q, 2, 0)
	pops(t, q, 4, 1)
	holds(t, q, load{1, 800}, load{})
	if n := q.Len(9); n != 0 {
		t.Errorf("Len(9) = %d", n)
	}
	pops(t, q, 5, 0)
	idles(t, q)
}
