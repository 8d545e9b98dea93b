package queue_test

import (
	"testing"

	"weir/api"
	"weir/queue"
)

// fill pushes items of these sizes into a class, numbered from first on.
func fill(t *testing.T, q *queue.Queue, class, first int, sizes ...int) {
	t.Helper()
	for i, s := range sizes {
		pushes(t, q, class, s, first+i)
	}
}

// 18.3: a class goes on as long as its deficit reaches; the quantum is given once while the pointer stands.
func TestQuantumOnce(t *testing.T) {
	q := made(t, open(100), open(100))
	fill(t, q, 0, 1, 40, 40, 20, 1, 99)
	fill(t, q, 1, 11, 100, 100)
	pops(t, q, 1, 0)
	pops(t, q, 2, 0)
	pops(t, q, 3, 0)
	pops(t, q, 11, 1)
	pops(t, q, 4, 0)
	pops(t, q, 5, 0)
	pops(t, q, 12, 1)
	idles(t, q)
}

// 18.3: a head of just the deficit goes, one of a byte more does not.
func TestDeficitReaches(t *testing.T) {
	q := made(t, open(100), open(100))
	fill(t, q, 0, 1, 100)
	fill(t, q, 1, 11, 1)
	pops(t, q, 1, 0)
	pops(t, q, 11, 1)
	q = made(t, open(100), open(100))
	fill(t, q, 0, 1, 101)
	fill(t, q, 1, 11, 1)
	pops(t, q, 11, 1)
	pops(t, q, 1, 0)
}

// 18.3: what is left of the deficit stays for the next round.
func TestDeficitStays(t *testing.T) {
	for _, more := range []int{0, 1} {
		q := made(t, open(100), open(64))
		fill(t, q, 0, 1, 70, 31, 99+more, 500)
		fill(t, q, 1, 11, 64, 64)
		pops(t, q, 1, 0) // 30 are left, and the next has 31
		pops(t, q, 11, 1)
		pops(t, q, 2, 0) // 99 are left
		if more == 0 {
			pops(t, q, 3, 0)
			pops(t, q, 12, 1)
			continue
		}
		pops(t, q, 12, 1)
		pops(t, q, 3, 0)
	}
}

// 18.3: an emptied line has no deficit left, and is given no second quantum while the pointer stands.
func TestEmptiedLine(t *testing.T) {
	q := made(t, open(100), open(100))
	fill(t, q, 0, 1, 10)
	pops(t, q, 1, 0)
	fill(t, q, 0, 2, 10) // 90 would reach
	fill(t, q, 1, 11, 10)
	pops(t, q, 11, 1)
	fill(t, q, 1, 12, 10)
	pops(t, q, 2, 0)
	fill(t, q, 0, 3, 101) // 90 and 100 would reach
	pops(t, q, 12, 1)
	fill(t, q, 1, 13, 100)
	fill(t, q, 1, 14, 100)
	pops(t, q, 13, 1)
	pops(t, q, 3, 0)
	pops(t, q, 14, 1)
	idles(t, q)
}

// 18.3: the pointer stays where an item was taken, also at a class that was emptied and waits again.
func TestPointerStays(t *testing.T) {
	q := made(t, open(100), open(100), open(100))
	fill(t, q, 1, 11, 60, 60)
	pops(t, q, 11, 1)
	fill(t, q, 0, 1, 10)
	fill(t, q, 2, 21, 10)
	pops(t, q, 21, 2) // 40 are left in class 1: the pointer goes on from there
	pops(t, q, 1, 0)
	pops(t, q, 12, 1)
	idles(t, q)
	fill(t, q, 0, 2, 10)
	fill(t, q, 2, 22, 10)
	pops(t, q, 22, 2) // the pointer stood at class 1
	pops(t, q, 2, 0)
}

// 18.3: a queue that idles leaves the pointer, and what was given, as they are.
func TestIdleChangesNothing(t *testing.T) {
	q := made(t, open(100), open(100), open(100))
	fill(t, q, 1, 11, 10)
	pops(t, q, 11, 1)
	for range 5 {
		idles(t, q)
	}
	fill(t, q, 0, 1, 10)
	fill(t, q, 1, 12, 10)
	fill(t, q, 2, 21, 10)
	pops(t, q, 21, 2) // class 1 was given its quantum, and has none of it left
	pops(t, q, 1, 0)
	pops(t, q, 12, 1)
}

// 18.3: the classes have their turns in their order, behind the last one the first; those that do not wait are passed over.
func TestTurns(t *testing.T) {
	for n := 1; n <= 8; n++ {
		for mask := 1; mask < 1<<n; mask++ {
			var l []api.Class
			for range n {
				l = append(l, open(64))
			}
			q := made(t, l...)
			for c := range n {
				if mask>>c&1 == 1 {
					fill(t, q, c, 10*c, 64, 64, 64)
				}
			}
			for round := range 3 {
				for c := range n {
					if mask>>c&1 == 1 {
						pops(t, q, 10*c+round, c)
					}
				}
			}
			idles(t, q)
		}
	}
}

// 18.3: one class alone is given as many rounds as its head wants.
func TestManyRounds(t *testing.T) {
	q := made(t, open(64), open(65535))
	fill(t, q, 0, 1, 65535, 65535, 1)
	pops(t, q, 1, 0)
	pops(t, q, 2, 0)
	pops(t, q, 3, 0)
	idles(t, q)
	fill(t, q, 0, 1, 6400) // the hundredth quantum is the one that reaches
	for i := range 120 {
		fill(t, q, 1, 100+i, 65535)
	}
	served := 0
	for {
		i, _, _ := q.Pop()
		if i == 1 {
			break
		}
		served++
	}
	if served != 100 { // of the first round class 0 had been given its quantum, which was gone with its last item
		t.Errorf("%d items of the other class came first", served)
	}
}

// 18.3: tokens as many as the head wants do, one fewer hold it up.
func TestTokensReach(t *testing.T) {
	q := made(t, shaped(65535, 1))
	fill(t, q, 0, 1, 65000, 535)
	pops(t, q, 1, 0)
	pops(t, q, 2, 0)
	idles(t, q)
	q = made(t, shaped(65535, 1))
	fill(t, q, 0, 1, 65000, 536)
	pops(t, q, 1, 0)
	idles(t, q)
	q.Tick()
	pops(t, q, 2, 0)
	fill(t, q, 0, 3, 1)
	idles(t, q)
	q.Tick()
	pops(t, q, 3, 0)
}

// 18.3: the bucket is full at first.
func TestBurstAtFirst(t *testing.T) {
	for _, burst := range []int{65535, 65536, 200000} {
		c := shaped(65535, 1)
		c.Burst = burst
		q := made(t, c)
		left := burst
		for item := 0; left > 0; item++ {
			size := min(left, 40000)
			pushes(t, q, 0, size, item)
			pops(t, q, item, 0)
			left -= size
		}
		pushes(t, q, 0, 1, 99)
		idles(t, q)
	}
}

// 18.3: the head alone decides: what is small waits behind what is held up.
func TestHeadDecides(t *testing.T) {
	q := made(t, shaped(65535, 100), open(64))
	fill(t, q, 0, 1, 65535, 101, 1)
	fill(t, q, 1, 11, 5)
	pops(t, q, 1, 0)
	pops(t, q, 11, 1)
	idles(t, q)
	q.Tick()
	idles(t, q)
	q.Tick()
	pops(t, q, 2, 0)
	pops(t, q, 3, 0)
	idles(t, q)
}

// 18.3: what is held up, with more deficit than its head wants, keeps as much as its head wants once the pointer leaves it.
func TestHeldUpSavesNoMore(t *testing.T) {
	for _, more := range []int{0, 1} {
		q := made(t, shaped(40000, 1), open(64))
		fill(t, q, 0, 1, 40000, 25000, 700, 40000+more)
		fill(t, q, 1, 11, 64)
		pops(t, q, 1, 0)
		pops(t, q, 11, 1)
		pops(t, q, 2, 0) // 15000 of the deficit are left, 535 tokens
		fill(t, q, 1, 12, 64, 64)
		pops(t, q, 12, 1) // 700 of the deficit are left
		ticks(q, 65000)
		fill(t, q, 1, 14, 64, 64)
		if more == 0 {
			for _, want := range [][2]int{{3, 0}, {4, 0}, {13, 1}} {
				pops(t, q, want[0], want[1])
			}
			continue
		}
		for _, want := range [][2]int{{3, 0}, {13, 1}, {4, 0}, {14, 1}} {
			pops(t, q, want[0], want[1])
		}
	}
}

// 18.3: what is held up and has less than its head wants keeps that, and is given nothing.
func TestHeldUpIsGivenNothing(t *testing.T) {
	for _, more := range []int{0, 1} {
		q := made(t, shaped(1000, 1), open(64))
		fill(t, q, 0, 1, 65535)
		pops(t, q, 1, 0) // an emptied line has no deficit, and here no token is left
		fill(t, q, 0, 2, 900, 1300, 800+more)
		fill(t, q, 1, 11, 64, 64, 64, 64, 64, 64, 64, 64)
		pops(t, q, 11, 1)
		ticks(q, 900)
		pops(t, q, 2, 0) // 100 are left
		for i := range 4 {
			pops(t, q, 12+i, 1) // and again and again the pointer passes class 0
		}
		ticks(q, 10000) // from here on it is given 1000 in each round
		pops(t, q, 16, 1)
		pops(t, q, 3, 0) // 800 are left
		pops(t, q, []int{4, 17}[more], []int{0, 1}[more])
	}
}

// 18.3: what is held up while the whole queue idles keeps its deficit, for the pointer does not leave it.
func TestHeldUpAlone(t *testing.T) {
	for _, more := range []int{0, 1} {
		q := made(t, shaped(40000, 1), open(64))
		fill(t, q, 0, 1, 40000)
		pops(t, q, 1, 0)
		fill(t, q, 1, 11, 64)
		pops(t, q, 11, 1)
		fill(t, q, 0, 2, 25000, 700, 14300+more)
		pops(t, q, 2, 0) // 15000 of the deficit are left, 535 tokens
		for range 5 {
			idles(t, q)
		}
		ticks(q, 65000)
		fill(t, q, 1, 12, 64)
		pops(t, q, 3, 0) // 14300 are left
		pops(t, q, []int{4, 12}[more], []int{0, 1}[more])
	}
}

// 18.3: what is held up is passed over, in whatever place it stands, and nothing of others is less for it.
func TestHeldUpIsPassedOver(t *testing.T) {
	for at := range 3 {
		l := []api.Class{open(100), open(100), open(100)}
		l[at] = shaped(65535, 1)
		q := made(t, l...)
		fill(t, q, at, 1, 65535)
		pops(t, q, 1, at)
		for c := range 3 {
			fill(t, q, c, 10*c, 100, 100, 100)
		}
		for round := range 3 {
			for step := range 2 {
				c := (at + 1 + step) % 3
				pops(t, q, 10*c+round, c)
			}
		}
		idles(t, q)
		held := make([]load, 3)
		held[at] = load{3, 300}
		holds(t, q, held...)
		ticks(q, 100)
		pops(t, q, 10*at, at)
		idles(t, q)
	}
}

// 18.4: however often Peek is asked, what comes is as without it.
func TestPeekChangesNothing(t *testing.T) {
	d := rolled(184)
	for range 300 {
		l := d.classes(1 + d.Intn(4))
		q, bare := made(t, l...), made(t, l...)
		for item := range 200 {
			switch d.Intn(5) {
			case 0, 1, 2:
				c, s := d.Intn(len(l)), d.size()
				if a, b := q.Push(c, s, item), bare.Push(c, s, item); a != b {
					t.Fatalf("Push tells %d, without a Peek %d", a, b)
				}
			case 3:
				q.Tick()
				bare.Tick()
			case 4:
				i, c, ok := q.Pop()
				if j, k, and := bare.Pop(); i != j || c != k || ok != and {
					t.Fatalf("Pop tells %d, %d, %v; without a Peek %d, %d, %v", i, c, ok, j, k, and)
				}
			}
			i, c, ok := q.Peek()
			if j, k, and := q.Peek(); i != j || c != k || ok != and {
				t.Fatalf("Peek tells %d, %d, %v and then %d, %d, %v", i, c, ok, j, k, and)
			}
		}
	}
}

// 18.5: a tick brings Rate tokens, up to Burst, to a class that waits or not.
func TestTick(t *testing.T) {
	q := made(t, shaped(65535, 1000))
	fill(t, q, 0, 1, 65535, 2500)
	pops(t, q, 1, 0)
	for range 2 {
		q.Tick()
		idles(t, q)
	}
	q.Tick()
	pops(t, q, 2, 0)
	fill(t, q, 0, 3, 501)
	idles(t, q) // 500 are left
	q.Tick()
	pops(t, q, 3, 0)
	ticks(q, 64) // 999 are left, 64999 now
	fill(t, q, 0, 4, 65000)
	idles(t, q)
	q.Tick() // 65535, not 65999
	pops(t, q, 4, 0)
	fill(t, q, 0, 5, 536)
	idles(t, q)
	q.Tick()
	pops(t, q, 5, 0)
}

// 18.5: the greatest rate, and a bucket that is full already.
func TestTickIsBounded(t *testing.T) {
	c := shaped(65535, 1<<26)
	q := made(t, c)
	ticks(q, 1000)
	fill(t, q, 0, 1, 65535, 1)
	pops(t, q, 1, 0)
	idles(t, q)
	q.Tick()
	pops(t, q, 2, 0)
	c.Burst = 1 << 28
	q = made(t, c)
	ticks(q, 1000)
	for i := range 1 << 12 {
		pushes(t, q, 0, 65535, i)
		if i%1024 == 1023 {
			for j := i - 1023; j <= i; j++ {
				pops(t, q, j, 0)
			}
		}
	}
	fill(t, q, 0, 1, 4096, 1) // 4096 * 65535 and 4096 are 1 << 28
	pops(t, q, 1, 0)
	idles(t, q)
}

// 18.5: each class has tokens of its own.
func TestTokensOfEach(t *testing.T) {
	q := made(t, shaped(65535, 10), shaped(65535, 20), open(64))
	fill(t, q, 0, 1, 65535, 100)
	fill(t, q, 1, 11, 65535, 100)
	pops(t, q, 1, 0)
	pops(t, q, 11, 1)
	for n := 1; n <= 10; n++ {
		idles(t, q)
		q.Tick()
		if n == 5 {
			pops(t, q, 12, 1)
		}
	}
	pops(t, q, 2, 0)
	idles(t, q)
}
