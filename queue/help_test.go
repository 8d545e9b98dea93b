package queue_test

import (
	"math/rand"
	"testing"

	"weir/api"
	"weir/queue"
)

// open is a class that is not shaped and has much room; shaped is one that is.
func open(quantum int) api.Class {
	return api.Class{Quantum: quantum, Items: 4096, Bytes: 1 << 26}
}

func shaped(quantum, rate int) api.Class {
	return api.Class{Quantum: quantum, Items: 4096, Bytes: 1 << 26, Rate: rate, Burst: 65535}
}

func made(t *testing.T, classes ...api.Class) *queue.Queue {
	t.Helper()
	q, e := queue.New(classes)
	if q == nil || e != api.OK {
		t.Fatalf("New(%+v) = %v, %d", classes, q, e)
	}
	return q
}

func pushes(t *testing.T, q *queue.Queue, class, size, item int) {
	t.Helper()
	if e := q.Push(class, size, item); e != api.OK {
		t.Errorf("Push(%d, %d, %d) = %d", class, size, item, e)
	}
}

func refuses(t *testing.T, q *queue.Queue, class, size int, want api.Errno) {
	t.Helper()
	if e := q.Push(class, size, -1); e != want {
		t.Errorf("Push(%d, %d, -1) = %d, want %d", class, size, e, want)
	}
}

// pops wants an item of a class, of Peek and then of Pop.
func pops(t *testing.T, q *queue.Queue, item, class int) {
	t.Helper()
	if i, c, ok := q.Peek(); i != item || c != class || !ok {
		t.Errorf("Peek() = %d, %d, %v; want %d, %d", i, c, ok, item, class)
	}
	if i, c, ok := q.Pop(); i != item || c != class || !ok {
		t.Errorf("Pop() = %d, %d, %v; want %d, %d", i, c, ok, item, class)
	}
}

// idles wants no item whose turn it is.
func idles(t *testing.T, q *queue.Queue) {
	t.Helper()
	if i, c, ok := q.Peek(); i != 0 || c != 0 || ok {
		t.Errorf("Peek() = %d, %d, %v", i, c, ok)
	}
	if i, c, ok := q.Pop(); i != 0 || c != 0 || ok {
		t.Errorf("Pop() = %d, %d, %v", i, c, ok)
	}
}

func ticks(q *queue.Queue, n int) {
	for range n {
		q.Tick()
	}
}

// load is how many items and how many bytes wait in a class.
type load struct{ items, bytes int }

// holds wants these loads in the classes from 0 on.
func holds(t *testing.T, q *queue.Queue, want ...load) {
	t.Helper()
	for c, w := range want {
		if n, b := q.Len(c), q.Bytes(c); n != w.items || b != w.bytes {
			t.Errorf("in class %d wait %d items of %d bytes, want %+v", c, n, b, w)
		}
	}
}

// dice draws configurations and sizes, ordinary ones and those at the edges.
type dice struct{ *rand.Rand }

func rolled(seed int64) dice { return dice{rand.New(rand.NewSource(seed))} }

func (d dice) of(numbers ...int) int { return numbers[d.Intn(len(numbers))] }

func (d dice) class() api.Class {
	c := api.Class{
		Quantum: d.of(64, 65, 1000, 1500, 65535, 64+d.Intn(3000), 64+d.Intn(65472)),
		Items:   d.of(1, 2, 5, 8, 9, 100, 4096),
		Bytes:   d.of(1, 1000, 65535, 200000, 1<<26),
	}
	if d.Intn(2) == 0 {
		c.Rate = d.of(1, 100, 1500, 30000, 65535, 1<<26)
		c.Burst = d.of(65535, 65535, 65536, 100000, 1<<28)
	}
	return c
}

func (d dice) classes(n int) []api.Class {
	l := make([]api.Class, n)
	for i := range l {
		l[i] = d.class()
	}
	return l
}

func (d dice) size() int {
	return d.of(1, 64, 65535, 1+d.Intn(100), 1+d.Intn(1500), 1+d.Intn(1500), 1+d.Intn(65535))
}
