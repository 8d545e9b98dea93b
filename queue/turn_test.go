package queue_test

import (
	"fmt"
	"math"
	"slices"
	"testing"

	"weir/api"
	"weir/queue"
)

// turn makes one drawn call, and tells what it answered.
func (d dice) turn(q *queue.Queue, classes, item int) string {
	switch d.Intn(6) {
	case 0, 1, 2:
		return fmt.Sprint(q.Push(d.Intn(classes), d.size(), item))
	case 3:
		q.Tick()
		return ""
	case 4:
		return fmt.Sprint(q.Peek())
	}
	return fmt.Sprint(q.Pop())
}

// 18.7: a refused call changes nothing: one queue hears many such calls, another none.
func TestRefusedChangesNothing(t *testing.T) {
	for seed := range int64(200) {
		d, e, wrong := rolled(seed), rolled(seed), rolled(-seed-1)
		n := 1 + d.Intn(4)
		e.Intn(4)
		l := d.classes(n)
		e.classes(n)
		bare, q := made(t, l...), made(t, l...)
		for item := range 200 {
			for range 3 {
				if e := q.Push(wrong.of(-1, n, math.MinInt, math.MaxInt), wrong.size(), item); e != api.ErrClass {
					t.Fatalf("Push tells %d", e)
				}
				if e := q.Push(wrong.Intn(n), wrong.of(-1, 0, 65536, math.MinInt, math.MaxInt), item); e != api.ErrSize {
					t.Fatalf("Push tells %d", e)
				}
				for c := range l {
					if q.Len(c) == l[c].Items || q.Bytes(c) == l[c].Bytes {
						refuses(t, q, c, wrong.size(), api.ErrQFull)
					}
				}
				if _, _, ok := q.Peek(); !ok {
					idles(t, q)
				}
			}
			if a, b := d.turn(bare, n, item), e.turn(q, n, item); a != b {
				t.Fatalf("of %+v: turn %d tells %s, without refused calls %s", l, item, b, a)
			}
		}
	}
}

// 18.7: queues that are used turn by turn are as they are each alone.
func TestTwoQueues(t *testing.T) {
	for seed := range int64(200) {
		d, e, other := rolled(seed), rolled(seed), rolled(-seed-1)
		n := 1 + d.Intn(4)
		e.Intn(4)
		l := d.classes(n)
		e.classes(n)
		alone, x, y := made(t, l...), made(t, l...), made(t, l...)
		for item := range 200 {
			a := d.turn(alone, n, item)
			other.turn(y, n, -item)
			if b := e.turn(x, n, item); a != b {
				t.Fatalf("of %+v: turn %d tells %s, alone %s", l, item, b, a)
			}
		}
	}
}

// 18.7: whatever a call is given, it ends and answers a number of this layer.
func TestAnythingAtAll(t *testing.T) {
	d := rolled(187)
	numbers := []int{math.MinInt, -65536, -1, 0, 1, 2, 7, 8, 63, 64, 65534, 65535, 65536, 1 << 26, 1 << 28, 1 << 32, math.MaxInt}
	number := func() int { return d.of(numbers...) }
	taken := 0
	for range 60000 {
		l := make([]api.Class, d.Intn(3))
		for i := range l {
			l[i] = api.Class{Quantum: number(), Items: d.of(0, 1, 9), Bytes: number(), Rate: d.of(0, number()), Burst: number()}
		}
		q, e := queue.New(l)
		if (q == nil) != (e == api.ErrQueue) || e != api.OK && e != api.ErrQueue {
			t.Fatalf("New(%+v) = %v, %d", l, q, e)
		}
		if q == nil {
			continue
		}
		taken++
		for range 20 {
			class, size, item := d.of(0, 1, number()), number(), number()
			e := q.Push(class, size, item)
			if !slices.Contains([]api.Errno{api.OK, api.ErrClass, api.ErrSize, api.ErrQFull}, e) {
				t.Fatalf("Push(%d, %d, %d) = %d", class, size, item, e)
			}
			q.Pop()
			q.Tick()
			if q.Len(number()) < 0 || q.Bytes(number()) < 0 {
				t.Fatal("fewer than none wait")
			}
		}
	}
	if taken < 500 {
		t.Errorf("only %d queues were made", taken)
	}
}

// 18.8, 18.9: each item is told once, with its class, in its class's order, or waits still; and one is told whenever one may go.
func TestNothingIsLost(t *testing.T) {
	d := rolled(188)
	for range 500 {
		l := d.classes(1 + d.Intn(8))
		q := made(t, l...)
		lines := make([][]entry, len(l))
		tokens := make([]int, len(l))
		for c := range l {
			tokens[c] = l[c].Burst
		}
		for item := range 400 {
			if c, s := d.Intn(len(l)), d.size(); q.Push(c, s, item) == api.OK {
				lines[c] = append(lines[c], entry{item, s})
			}
			if d.Intn(4) == 0 {
				q.Tick()
				for c := range l {
					tokens[c] = min(tokens[c]+l[c].Rate, l[c].Burst)
				}
			}
			mayGo := func(c int) bool {
				return len(lines[c]) > 0 && (l[c].Rate == 0 || lines[c][0].size <= tokens[c])
			}
			one := false
			for c := range l {
				one = one || mayGo(c)
			}
			if d.Intn(3) == 0 {
				continue
			}
			i, c, ok := q.Pop()
			if ok != one || ok && (!mayGo(c) || lines[c][0].item != i) {
				t.Fatalf("of %+v: Pop() = %d, %d, %v; there wait %v, with the tokens %v", l, i, c, ok, lines, tokens)
			}
			if ok {
				tokens[c] -= lines[c][0].size
				lines[c] = lines[c][1:]
			}
		}
		for c := range l {
			if q.Len(c) != len(lines[c]) {
				t.Fatalf("in class %d wait %d, want %d", c, q.Len(c), len(lines[c]))
			}
		}
	}
}

// stretch is, of two classes, how far the first has been ahead of the second since both have waited and not been held up.
type stretch struct{ now, least int }

// went takes what was served to each of the two, in bytes times the other's quantum, and tells how far the first has got ahead since the worst beginning.
func (s *stretch) went(by int) int {
	s.now += by
	s.least = min(s.least, s.now)
	return s.now - s.least
}

// busy is a queue with what it was given, of which a class gets new items as it likes them.
type busy struct {
	*queue.Queue
	m    *model
	like func(class int) int // the size of a class's next item
	next int
}

// refill lets each class have some items, but for one that now and then is let run dry.
func (b *busy) refill(t *testing.T, d dice) {
	t.Helper()
	for c := range b.m.classes {
		if d.Intn(40) == 0 {
			continue
		}
		for len(b.m.lines[c]) < 3 {
			b.next++
			s := b.like(c)
			pushes(t, b.Queue, c, s, b.next)
			b.m.push(c, s, b.next)
		}
	}
}

// serve pops, of both, and tells the class and the bytes.
func (b *busy) serve(t *testing.T) (class, size int) {
	t.Helper()
	i, c, ok := b.Pop()
	e, k, there := b.m.pop()
	if i != e.item || c != k || ok != there {
		t.Fatalf("Pop() = %d, %d, %v; want %d, %d, %v", i, c, ok, e.item, k, there)
	}
	return c, e.size
}

func (b *busy) tick() {
	b.Tick()
	b.m.tick()
}

// busyQueue is one with classes that have room, and each its own taste of sizes.
func (d dice) busyQueue(t *testing.T) *busy {
	t.Helper()
	l := d.classes(2 + d.Intn(3))
	tastes := make([]int, len(l))
	for c := range l {
		l[c].Items, l[c].Bytes = 8, 1<<26
		tastes[c] = d.Intn(4)
	}
	like := func(c int) int {
		return [...]int{1 + d.Intn(1500), 65535, 1 + d.Intn(64), d.size()}[tastes[c]]
	}
	return &busy{Queue: made(t, l...), m: newModel(l), like: like}
}

// 18.10: of two classes that both wait and are not held up, none gets too far ahead, wherever a stretch begins and ends.
func TestFair(t *testing.T) {
	d := rolled(1810)
	looked := 0
	for range 300 {
		b := d.busyQueue(t)
		l := b.m.classes
		var s [8][8]stretch
		able := func() (now [8]bool) {
			for c := range l {
				now[c] = b.m.able(c)
			}
			return now
		}
		for range 400 {
			if b.refill(t, d); d.Intn(3) == 0 {
				b.tick()
			}
			before := able()
			class, size := b.serve(t)
			after := able()
			var served [8]int
			served[class] = size
			for i := range l {
				for j := range l {
					if i == j || !before[i] || !before[j] || !after[i] || !after[j] {
						s[i][j] = stretch{}
						continue
					}
					looked++
					a, o := l[i].Quantum, l[j].Quantum
					if ahead := s[i][j].went(served[i]*o - served[j]*a); ahead > 2*a*o+65535*(a+o) {
						t.Fatalf("of %+v: class %d is ahead of %d by %d", l, i, j, ahead)
					}
				}
			}
		}
	}
	if looked < 100000 {
		t.Errorf("only %d times two classes were held against each other", looked)
	}
}

// 18.10: items of the greatest and the least size, the least and the greatest quantum, in a long stretch.
func TestFairAtTheEdges(t *testing.T) {
	for _, quanta := range [][2]int{{64, 64}, {64, 65535}, {65535, 64}, {65535, 65535}, {100, 300}} {
		for _, sizes := range [][2]int{{1, 65535}, {65535, 1}, {65535, 65535}, {64, 65535}, {1500, 65}} {
			q := made(t, open(quanta[0]), open(quanta[1]))
			a, b := quanta[0], quanta[1]
			var served [2]int
			for c := range 2 {
				fill(t, q, c, 0, sizes[c], sizes[c])
			}
			for range 3000 {
				_, c, _ := q.Pop()
				served[c] += sizes[c]
				pushes(t, q, c, sizes[c], 0)
				ahead := served[0]*b - served[1]*a
				if most := 2*a*b + 65535*(a+b); ahead > most || -ahead > most {
					t.Fatalf("the quanta %v, the sizes %v: %v were served", quanta, sizes, served)
				}
			}
		}
	}
}

// 18.10: in the long run the classes are served as their quanta are to each other.
func TestShares(t *testing.T) {
	l := []api.Class{open(100), open(200), open(700)}
	q := made(t, l...)
	sizes := [3]int{90, 150, 1400}
	var served [3]int
	for c := range l {
		fill(t, q, c, 0, sizes[c], sizes[c])
	}
	for range 200000 {
		_, c, _ := q.Pop()
		served[c] += sizes[c]
		pushes(t, q, c, sizes[c], 0)
	}
	all := served[0] + served[1] + served[2]
	for c := range l {
		if want := all / 1000 * l[c].Quantum; served[c] < want-want/1000 || served[c] > want+want/1000 {
			t.Errorf("class %d was served %d of %d bytes, want some %d", c, served[c], all, want)
		}
	}
}

// 18.11: a shaped class is served at most Burst and Rate for each Tick.
func TestRateIsKept(t *testing.T) {
	d := rolled(1811)
	for range 300 {
		b := d.busyQueue(t)
		l := b.m.classes
		served, n := make([]int, len(l)), 0
		for range 400 {
			if b.refill(t, d); d.Intn(3) == 0 {
				b.tick()
				n++
			}
			class, size := b.serve(t)
			served[class] += size
			for c := range l {
				if l[c].Rate > 0 && served[c] > l[c].Burst+n*l[c].Rate {
					t.Fatalf("%+v was served %d bytes in %d Ticks", l[c], served[c], n)
				}
			}
		}
	}
}

// 18.11, 18.9: and not much less, if it always waits and its share is greater than its rate.
func TestRateIsReached(t *testing.T) {
	for _, rate := range []int{1, 100, 1500} {
		q := made(t, shaped(64, rate), open(1500))
		served := 0
		fill(t, q, 0, 0, 50, 50)
		fill(t, q, 1, 0, 1500, 1500)
		for range 3000 {
			q.Tick()
			for range 100 {
				_, c, ok := q.Pop()
				if !ok {
					t.Fatal("it idles")
				}
				served += 50 * (1 - c)
				pushes(t, q, c, []int{50, 1500}[c], 0)
			}
		}
		if most := 65535 + 3000*rate; served > most || served < most-rate-50 { // the first Tick finds a full bucket
			t.Errorf("with the rate %d %d bytes were served", rate, served)
		}
	}
}

// W7: a class that waits and is not held up is served before the others have had more than their share of its rounds.
func TestNoClassStarves(t *testing.T) {
	d := rolled(7)
	for range 300 {
		b := d.busyQueue(t)
		l := b.m.classes
		others := make([]int, len(l)) // served to others since the class was served, or could not be
		for range 400 {
			if b.refill(t, d); d.Intn(3) == 0 {
				b.tick()
			}
			could := make([]bool, len(l))
			for c := range l {
				could[c] = b.m.able(c)
			}
			class, size := b.serve(t)
			for c := range l {
				if c == class || !could[c] {
					others[c] = 0
					continue
				}
				others[c] += size
				if most := patience(l, c); others[c] > most {
					t.Fatalf("of %+v: class %d waits while others are served %d bytes, more than %d", l, c, others[c], most)
				}
			}
		}
	}
}

// patience is how many bytes others may be served while a class waits for its greatest item: in each round their quanta, and once what they had saved.
func patience(l []api.Class, class int) (bytes int) {
	rounds := 65535/l[class].Quantum + 2
	for c := range l {
		if c != class {
			bytes += rounds*l[c].Quantum + 65535
		}
	}
	return bytes
}
