package neigh_test

import (
	"fmt"
	"math"
	"math/rand"
	"slices"
	"testing"

	"weir/api"
	"weir/neigh"
)

// turn is one drawn call that may be, as a text of what it answers.
func (d dice) turn(x *neigh.Cache, item int) string {
	port, ip := d.place()
	switch d.Intn(4) {
	case 0, 1:
		return fmt.Sprint(x.Want(port, ip, item))
	case 2:
		return fmt.Sprint(x.Learn(port, ip, []api.Mac{m, m2}[d.Intn(2)], 1+d.Intn(3)))
	}
	return fmt.Sprint(x.Tick())
}

// 15.6: two caches that are given the same tell the same, though the one was besides given all that is refused.
func TestRefusedChangesNothing(t *testing.T) {
	for seed := range int64(300) {
		d, e := dice{rand.New(rand.NewSource(seed))}, dice{rand.New(rand.NewSource(seed))}
		other := dice{rand.New(rand.NewSource(-seed - 1))}
		c, _ := d.config(), e.config()
		x, y := cache(t, c), cache(t, c)
		for item := range 100 {
			if a, b := d.turn(x, item), e.turn(y, item); a != b {
				t.Fatalf("turn %d tells %s and %s", item, a, b)
			}
			offend(t, other, y, c)
			if a, b := x.All(), y.All(); !slices.Equal(a, b) {
				t.Fatalf("behind turn %d there is %+v and %+v", item, a, b)
			}
		}
	}
}

// offend gives a cache what it must refuse: wrong places, MACs and hows, items for lines that are full, neighbours for whom
// there is no room.
func offend(t *testing.T, d dice, x *neigh.Cache, c api.NeighConfig) {
	t.Helper()
	if port, ip := d.odd(); mayNotBe(port, ip) {
		refusesWant(t, x, port, ip, -1, api.ErrArg)
		refusesLearn(t, x, port, ip, m, 1+d.Intn(3), api.ErrArg)
	}
	port, ip := d.place()
	refusesLearn(t, x, port, ip, api.Mac{}, api.LAnswer, api.ErrArg)
	refusesLearn(t, x, port, ip, api.Mac{5}, api.LAsk, api.ErrArg)
	refusesLearn(t, x, port, ip, m, 4*d.Intn(2), api.ErrArg)
	l, room := x.All(), false
	for _, n := range l {
		if room = room || n.State == api.NStale; n.State == api.NAsked && n.Waiting == c.Line {
			refusesWant(t, x, n.Port, n.IP, -1, api.ErrWaiting)
		}
	}
	if len(l) == c.Max && !room {
		refusesWant(t, x, 7, four(99), -1, api.ErrNoNeigh)
		refusesLearn(t, x, 7, four(99), m, api.LAsk, api.ErrNoNeigh)
	}
}

// 15.6: caches that are used turn by turn are as they are each alone.
func TestTwoCaches(t *testing.T) {
	for seed := range int64(100) {
		d, e := dice{rand.New(rand.NewSource(seed))}, dice{rand.New(rand.NewSource(seed))}
		other := dice{rand.New(rand.NewSource(-seed - 1))}
		alone, x, y := cache(t, wide), cache(t, wide), cache(t, wide)
		for item := range 100 {
			a := d.turn(alone, item)
			other.turn(y, -item)
			if b := e.turn(x, item); a != b {
				t.Fatalf("turn %d tells %s, alone %s", item, b, a)
			}
			if a, b := alone.All(), x.All(); !slices.Equal(a, b) {
				t.Fatalf("behind turn %d there is %+v, alone %+v", item, b, a)
			}
		}
	}
}

// spoil writes into an answer and its spare room; nothing is to stand there.
func spoil[T comparable](t *testing.T, l []T, with T) {
	t.Helper()
	var none T
	for _, v := range l[len(l):cap(l)] {
		if v != none {
			t.Errorf("in the spare room stands %v", v)
		}
	}
	l = l[:cap(l)]
	for i := range l {
		l[i] = with
	}
}

// 15.6: answers are new memory, spare room too: whoever writes there is not seen.
func TestAnswersAreNew(t *testing.T) {
	for n := 1; n <= 8; n++ {
		x := cache(t, wide)
		lines := func(from int) (l []int) {
			for i := range n {
				for _, ip := range []api.IP{four(1), four(2)} {
					wants(t, x, 0, ip, from+i, api.Mac{}, []int{api.NAsk, api.NWait}[min(i, 1)])
				}
				l = append(l, from+i)
			}
			return l
		}
		first := lines(10)
		told := x.All()
		spoil(t, x.All(), api.Neighbour{Port: -1})
		holds(t, x, told...)
		got, _ := x.Learn(0, four(1), m, api.LAnswer)
		spoil(t, got, -1)
		second, _ := x.Learn(0, four(2), m, api.LSeen)
		if !slices.Equal(second, first) {
			t.Errorf("the other line is %v", second)
		}
		holds(t, x, fresh(0, four(1), m, 0), stale(0, four(2), m, 0))
		x = cache(t, wide)
		lines(50)
		if spoil(t, second, -1); x.Waiting() != 2*n {
			t.Errorf("%d wait", x.Waiting())
		}
		spoilTicks(t, x, n)
	}
}

// spoilTicks writes into what each Tick tells, of two lines with n items from 50 on.
func spoilTicks(t *testing.T, x *neigh.Cache, n int) {
	t.Helper()
	quiet(t, x, 4)
	a, _ := x.Tick()
	spoil(t, a, api.Ask{Port: -1})
	quiet(t, x, 4)
	ticks(t, x, asks{{IP: four(1), Try: 3}, {IP: four(2), Try: 3}}, nil)
	quiet(t, x, 4)
	_, l := x.Tick()
	for i, item := range l {
		if item != 50+i%n {
			t.Errorf("lost are %v", l)
		}
	}
	if len(l) != 2*n {
		t.Errorf("lost are %v", l)
	}
	spoil(t, l, -1)
	holds(t, x)
}

// 15.6: what a Learn told is not written into by what waits later.
func TestToldLinesStay(t *testing.T) {
	for n := 1; n <= 2; n++ {
		x := cache(t, little)
		put(t, x, 0, four(1), api.NAsked, 1)
		if n == 2 {
			wants(t, x, 0, four(1), 2, api.Mac{}, api.NWait)
		}
		got, _ := x.Learn(0, four(1), m, api.LAnswer)
		kept := slices.Clone(got)
		quiet(t, x, 3)
		wants(t, x, 0, four(1), 0, m, api.NKnownAsk)
		quiet(t, x, 1)
		ticks(t, x, asks{{IP: four(1), Mac: m, Try: 2}}, nil)
		quiet(t, x, 1)
		ticks(t, x, nil, nil)
		wants(t, x, 0, four(1), 8, api.Mac{}, api.NAsk)
		wants(t, x, 0, four(1), 9, api.Mac{}, api.NWait)
		learns(t, x, 0, four(1), m, api.LAnswer, 8, 9)
		if !slices.Equal(got, kept) {
			t.Errorf("what was told is %v now, was %v", got, kept)
		}
	}
}

// lines is which items wait for whom, as what a cache told says.
type lines map[place][]int

// leave takes items out of a line, of which they must be all, in their order.
func (w lines) leave(t *testing.T, p place, items []int) {
	t.Helper()
	if !slices.Equal(w[p], items) {
		t.Fatalf("of %v there go %v, there waited %v", p, items, w[p])
	}
	delete(w, p)
}

func (w lines) count() (n int) {
	for _, l := range w {
		n += len(l)
	}
	return n
}

// 15.7, 15.9: each item that waits is told just once more, in its line's order, or waits still; never too many of either.
func TestNoItemIsForgotten(t *testing.T) {
	d := dice{rand.New(rand.NewSource(157))}
	for range 600 {
		c := d.config()
		x, w := cache(t, c), lines{}
		for item := range 200 {
			port, ip := d.place()
			p := place{port, ip}
			switch d.Intn(5) {
			case 0, 1, 2:
				if _, o, _ := x.Want(port, ip, item); o == api.NAsk || o == api.NWait {
					w[p] = append(w[p], item)
				}
			case 3:
				if l, e := x.Learn(port, ip, d.mac(), 1+d.Intn(3)); len(l) > 0 && e == api.OK {
					w.leave(t, p, l)
				}
			case 4:
				before := x.All()
				_, l := x.Tick()
				for _, n := range before {
					if _, ok := x.Get(n.Port, n.IP); !ok {
						w.leave(t, place{n.Port, n.IP}, l[:n.Waiting])
						l = l[n.Waiting:]
					}
				}
				if len(l) > 0 {
					t.Fatalf("lost are %v besides", l)
				}
			}
			bounded(t, x, c, w)
		}
	}
}

// bounded wants the lines to be those of the cache, and no longer than they may be; nor more entries.
func bounded(t *testing.T, x *neigh.Cache, c api.NeighConfig, w lines) {
	t.Helper()
	l := x.All()
	if len(l) > c.Max || x.Waiting() != w.count() {
		t.Fatalf("%d entries of %d; %d items wait, %d were not told", len(l), c.Max, x.Waiting(), w.count())
	}
	for _, n := range l {
		if n.Waiting != len(w[place{n.Port, n.IP}]) || n.Waiting > c.Line || (n.Waiting > 0) != (n.State == api.NAsked) {
			t.Fatalf("%+v, there wait %v, at most %d", n, w[place{n.Port, n.IP}], c.Line)
		}
	}
}

// watch is when an entry that is asked for was asked, by the count of the Ticks.
type watch struct{ first, last, times int }

// 15.8: asked just every Every Ticks, at most Tries times, and no item waits longer than that.
func TestNobodyIsAskedTooOften(t *testing.T) {
	d := dice{rand.New(rand.NewSource(158))}
	for range 600 {
		c := d.config()
		x, seen, now := cache(t, c), map[place]watch{}, 0
		for item := range 200 {
			port, ip := d.place()
			switch d.Intn(6) {
			case 0, 1:
				if _, o, _ := x.Want(port, ip, item); o == api.NAsk || o == api.NKnownAsk {
					seen[place{port, ip}] = watch{now, now, 1}
				}
			case 2:
				if x.Learn(port, ip, d.mac(), 1+d.Intn(3)); d.Intn(2) == 0 {
					x.Want(7, six(byte(d.Intn(200))), item) // somebody may have to give way
				}
			default:
				now++
				told, _ := x.Tick()
				for _, a := range told {
					w := seen[place{a.Port, a.IP}]
					if w.times++; a.Port != 7 && (now != w.last+c.Every || a.Try != w.times || w.times > c.Tries) {
						t.Fatalf("of %+v: at %d %+v, seen %+v", c, now, a, w)
					}
					w.last = now
					seen[place{a.Port, a.IP}] = w
				}
			}
			patient(t, x, c, seen, now)
		}
	}
}

// patient wants each entry that is asked for to have been asked as it tells, and for no longer than it may wait.
func patient(t *testing.T, x *neigh.Cache, c api.NeighConfig, seen map[place]watch, now int) {
	t.Helper()
	for _, n := range x.All() {
		w := seen[place{n.Port, n.IP}]
		if n.Port == 7 || n.State != api.NAsked && n.State != api.NProbed {
			continue
		}
		if n.Tries != w.times || n.Age != now-w.last || n.Age >= c.Every || now-w.first >= c.Tries*c.Every {
			t.Fatalf("of %+v: at %d %+v, seen %+v", c, now, n, w)
		}
	}
}

// 15.8: an item that came first waits through just Tries times Every Ticks, if nobody answers.
func TestWaitsNoLonger(t *testing.T) {
	for every := 1; every <= 5; every++ {
		for tries := 1; tries <= 16; tries++ {
			x := cache(t, api.NeighConfig{Max: 1, Line: 2, Every: every, Tries: tries, Fresh: 1})
			put(t, x, 0, six(1), api.NAsked, 1)
			for n := 1; x.Waiting() > 0; n++ {
				_, l := x.Tick()
				if n == every*tries-1 {
					wants(t, x, 0, six(1), 2, api.Mac{}, []int{api.NWait, api.NAsk}[min(len(l), 1)])
				}
				if (len(l) > 0) != (n == every*tries) {
					t.Fatalf("every %d, tries %d: Tick %d tells %v as lost", every, tries, n, l)
				}
			}
			holds(t, x)
		}
	}
}

// 15.6: whatever a call is given, it ends and answers a number of this layer.
func TestAnythingAtAll(t *testing.T) {
	d := dice{rand.New(rand.NewSource(156))}
	numbers := []int{math.MinInt, -1, 0, 1, 2, 3, 4, 5, 6, 7, 8, 1 << 32, math.MaxInt}
	number := func() int { return numbers[d.Intn(len(numbers))] }
	x := cache(t, api.NeighConfig{Max: 20, Line: 2, Every: 3, Tries: 2, Fresh: 4})
	known := []api.Errno{api.OK, api.ErrArg, api.ErrWaiting, api.ErrNoNeigh}
	taken := 0
	for range 50000 {
		ip := api.IP{V: number()}
		for range d.Intn(3) {
			ip.A[d.Intn(16)] = byte(d.Intn(4))
		}
		mac := api.Mac{byte(d.Intn(4)), byte(d.Intn(2))}
		port, item := number(), number()
		a, o, e := x.Want(port, ip, item)
		if !slices.Contains(known, e) || (o == api.NRefused) != (e != api.OK) || (a != api.Mac{}) != (o == api.NKnown || o == api.NKnownAsk) {
			t.Fatalf("Want(%d, %v, %d) = %v, %d, %d", port, ip, item, a, o, e)
		}
		if l, e := x.Learn(number(), ip, mac, number()); !slices.Contains(known, e) || e != api.OK && len(l) > 0 {
			t.Fatalf("Learn tells %v, %d", l, e)
		}
		if _, ok := x.Get(number(), ip); ok {
			taken++
		}
		if d.Intn(8) == 0 {
			x.Tick()
		}
		if len(x.All()) > 20 {
			t.Fatalf("there are %d entries", len(x.All()))
		}
	}
	if taken == 0 {
		t.Error("no entry was met")
	}
}
