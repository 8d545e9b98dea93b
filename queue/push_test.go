package queue_test

import (
	"math"
	"testing"

	"weir/api"
)

// 18.2: classes that there are not.
func TestNoSuchClass(t *testing.T) {
	q := made(t, open(100), open(100))
	for _, c := range []int{math.MinInt, -2, -1, 2, 3, 8, 1 << 32, math.MaxInt} {
		refuses(t, q, c, 1, api.ErrClass)
		if n, b := q.Len(c), q.Bytes(c); n != 0 || b != 0 {
			t.Errorf("in class %d wait %d items of %d bytes", c, n, b)
		}
	}
	holds(t, q, load{}, load{})
	idles(t, q)
}

// 18.2: sizes at both ends and one past them.
func TestSizes(t *testing.T) {
	q := made(t, open(100))
	for _, s := range []int{math.MinInt, -65535, -1, 0, 65536, 65537, 1 << 32, math.MaxInt} {
		refuses(t, q, 0, s, api.ErrSize)
	}
	holds(t, q, load{})
	pushes(t, q, 0, 1, 1)
	pushes(t, q, 0, 65535, 2)
	holds(t, q, load{2, 65536})
	pops(t, q, 1, 0)
	pops(t, q, 2, 0)
	idles(t, q)
}

// 18.2: of several errors the class's comes first, then the size's, then the room's.
func TestOrderOfErrors(t *testing.T) {
	q := made(t, api.Class{Quantum: 64, Items: 1, Bytes: 1})
	pushes(t, q, 0, 1, 1)
	refuses(t, q, 1, 0, api.ErrClass)
	refuses(t, q, -1, 65536, api.ErrClass)
	refuses(t, q, 0, 0, api.ErrSize)
	refuses(t, q, 0, 65536, api.ErrSize)
	refuses(t, q, 0, 1, api.ErrQFull)
	holds(t, q, load{1, 1})
	pops(t, q, 1, 0)
	idles(t, q)
}

// 18.2: as many items as may wait, and one more, again once one has left; each class by itself.
func TestItemsLimit(t *testing.T) {
	for _, most := range []int{1, 2, 3, 7, 8, 9, 4095, 4096} {
		c := open(65535)
		c.Items = most
		q := made(t, c, c)
		for i := range most {
			pushes(t, q, 1, 1, i)
		}
		refuses(t, q, 1, 1, api.ErrQFull)
		holds(t, q, load{}, load{most, most})
		pushes(t, q, 0, 1, -5)
		pops(t, q, -5, 0)
		pops(t, q, 0, 1)
		pushes(t, q, 1, 1, most)
		refuses(t, q, 1, 1, api.ErrQFull)
		for i := range most {
			pops(t, q, i+1, 1)
		}
		idles(t, q)
		holds(t, q, load{}, load{})
	}
}

// 18.2: as many bytes as may wait, and one more, again once some have left; each class by itself.
func TestBytesLimit(t *testing.T) {
	for _, most := range []int{1, 2, 100, 65534, 65535} {
		c := open(65535)
		c.Bytes = most
		q := made(t, c, c)
		if most < 65535 {
			refuses(t, q, 0, most+1, api.ErrQFull)
		}
		pushes(t, q, 0, most, 1)
		refuses(t, q, 0, 1, api.ErrQFull)
		holds(t, q, load{1, most}, load{})
		pushes(t, q, 1, most, 2)
		pops(t, q, 1, 0)
		for i := range min(most, 50) {
			pushes(t, q, 0, 1, 10+i)
		}
		refuses(t, q, 0, most-min(most, 50)+1, api.ErrQFull)
		holds(t, q, load{min(most, 50), min(most, 50)}, load{1, most})
	}
}

// 18.2: the greatest limit of bytes.
func TestManyBytes(t *testing.T) {
	q := made(t, open(65535))
	for i := range 1024 {
		pushes(t, q, 0, 65535, i)
	}
	left := 1<<26 - 1024*65535
	refuses(t, q, 0, left+1, api.ErrQFull)
	pushes(t, q, 0, left, 1024)
	refuses(t, q, 0, 1, api.ErrQFull)
	holds(t, q, load{1025, 1 << 26})
	for i := range 1025 {
		pops(t, q, i, 0)
	}
	holds(t, q, load{})
}

// 18.2, 18.3: an item may be any number, and may be the same as another.
func TestAnyItem(t *testing.T) {
	q := made(t, open(64))
	items := []int{0, 0, -1, math.MinInt, math.MaxInt, 7, 7, 0}
	for _, i := range items {
		pushes(t, q, 0, 30, i)
	}
	for _, i := range items {
		pops(t, q, i, 0)
	}
	idles(t, q)
}

// 18.6: items and bytes of each class, as they come and go.
func TestLoads(t *testing.T) {
	q := made(t, open(100), shaped(100, 1), open(100))
	pushes(t, q, 1, 30, 1)
	holds(t, q, load{}, load{1, 30}, load{})
	pushes(t, q, 2, 50, 2)
	pushes(t, q, 1, 70, 3)
	holds(t, q, load{}, load{2, 100}, load{1, 50})
	q.Tick()
	q.Peek()
	holds(t, q, load{}, load{2, 100}, load{1, 50})
	pops(t, q, 1, 1)
	holds(t, q, load{}, load{1, 70}, load{1, 50})
	pops(t, q, 3, 1)
	pops(t, q, 2, 2)
	holds(t, q, load{}, load{}, load{})
}

// 18.8: a line that is filled and emptied by turns, so that it begins at every place of its ring.
func TestLineGoesRound(t *testing.T) {
	for _, stand := range []int{0, 1, 2, 3, 5, 8, 100} {
		q := made(t, open(65535))
		next, first := 0, 0
		for length := range 300 {
			for ; next-first < stand+length%7; next++ {
				pushes(t, q, 0, 1+next%3, next)
			}
			for ; next-first > stand/2; first++ {
				pops(t, q, first, 0)
			}
		}
		for ; first < next; first++ {
			pops(t, q, first, 0)
		}
		idles(t, q)
	}
}
