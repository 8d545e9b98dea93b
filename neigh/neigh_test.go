package neigh_test

import (
	"math"
	"testing"

	"weir/api"
	"weir/neigh"
)

// 15.1 to 15.5: the examples.
func TestExamples(t *testing.T) {
	x := cache(t, little)
	a, b, c := four(1), four(2), four(3)
	none := api.Mac{}
	holds(t, x)
	wants(t, x, 0, a, 1, none, api.NAsk)
	wants(t, x, 0, a, 2, none, api.NWait)
	refusesWant(t, x, 0, a, 3, api.ErrWaiting)
	ticks(t, x, nil, nil)
	ticks(t, x, asks{{IP: a, Try: 2}}, nil)
	wants(t, x, 0, b, 4, none, api.NAsk)
	refusesWant(t, x, 0, c, 5, api.ErrNoNeigh)
	learns(t, x, 0, a, m, api.LAnswer, 1, 2)
	wants(t, x, 0, a, 6, m, api.NKnown)
	ticks(t, x, nil, nil)
	ticks(t, x, asks{{IP: b, Try: 2}}, nil)
	ticks(t, x, nil, nil)
	holds(t, x, stale(0, a, m, 0), asked(0, b, 1, 2, 1))
	wants(t, x, 0, c, 5, none, api.NAsk)
	hasNot(t, x, 0, a)
	ticks(t, x, nil, lost{4})
	learns(t, x, 0, a, m, api.LSeen)
	hasNot(t, x, 0, a)
	learns(t, x, 0, a, m, api.LAsk)
	wants(t, x, 0, a, 7, m, api.NKnownAsk)
	holds(t, x, probed(0, a, m, 0, 1), asked(0, c, 1, 1, 1))
}

// fields is those of a configuration, each with the most that it may be.
func fields(c *api.NeighConfig) map[*int]int {
	return map[*int]int{&c.Max: 1024, &c.Line: 64, &c.Every: 1048576, &c.Tries: 16, &c.Fresh: 1048576}
}

// 15.1: both ends of each number, the others being small and great.
func TestNew(t *testing.T) {
	low := api.NeighConfig{Max: 1, Line: 1, Every: 1, Tries: 1, Fresh: 1}
	high := api.NeighConfig{Max: 1024, Line: 64, Every: 1048576, Tries: 16, Fresh: 1048576}
	for _, c := range []api.NeighConfig{low, high, little, wide} {
		kept := c
		for f, most := range fields(&c) {
			was := *f
			for _, n := range []int{1, 2, most - 1, most} {
				*f = n
				x := cache(t, c)
				holds(t, x)
				hasNot(t, x, 0, four(1))
				ticks(t, x, nil, nil)
			}
			for _, n := range []int{0, -1, most + 1, most + 2, math.MinInt, math.MaxInt, 1 << 32, 1<<32 + 1} {
				*f = n
				if x, e := neigh.New(c); x != nil || e != api.ErrNeigh {
					t.Errorf("New(%+v) = %v, %d", c, x, e)
				}
			}
			*f = was
		}
		if c != kept {
			t.Fatalf("the configuration is %+v now", c)
		}
	}
	if x, e := neigh.New(api.NeighConfig{}); x != nil || e != api.ErrNeigh {
		t.Errorf("New of zeros = %v, %d", x, e)
	}
}

// 15.1: the numbers of the configuration are not taken for one another.
func TestEachNumber(t *testing.T) {
	x := cache(t, api.NeighConfig{Max: 4, Line: 3, Every: 6, Tries: 2, Fresh: 5})
	for d := range byte(4) {
		put(t, x, 1, four(d), api.NFresh, int(d))
	}
	refusesWant(t, x, 1, four(4), 9, api.ErrNoNeigh)
	quiet(t, x, 4)
	refusesWant(t, x, 1, four(4), 9, api.ErrNoNeigh)
	quiet(t, x, 1)
	for item := 10; item < 13; item++ {
		wants(t, x, 1, four(4), item, api.Mac{}, []int{api.NAsk, api.NWait, api.NWait}[item-10])
	}
	refusesWant(t, x, 1, four(4), 13, api.ErrWaiting)
	hasNot(t, x, 1, four(0))
	quiet(t, x, 5)
	ticks(t, x, asks{{Port: 1, IP: four(4), Try: 2}}, nil)
	quiet(t, x, 5)
	ticks(t, x, nil, lost{10, 11, 12})
	holds(t, x, stale(1, four(1), m, 12), stale(1, four(2), m, 12), stale(1, four(3), m, 12))
}

// 15.5: by port, then by version, then byte by byte, in whatever order they came to be; in whatever state.
func TestOrder(t *testing.T) {
	var l []api.Neighbour
	for _, port := range []int{0, 1, 6, 7} {
		for _, ip := range []api.IP{
			{V: 4}, {V: 4, A: [16]byte{0, 0, 0, 1}}, {V: 4, A: [16]byte{0, 0, 1}}, {V: 4, A: [16]byte{1, 0, 0, 2}}, {V: 4, A: [16]byte{2, 0, 0, 1}}, {V: 4, A: [16]byte{127, 255, 255, 255}}, {V: 4, A: [16]byte{128}}, {V: 4, A: [16]byte{255, 255, 255, 255}},
			{V: 6}, {V: 6, A: [16]byte{15: 1}}, {V: 6, A: [16]byte{15: 128}}, {V: 6, A: [16]byte{14: 1}}, {V: 6, A: [16]byte{7: 1, 15: 9}}, {V: 6, A: [16]byte{0, 0, 0, 1}}, {V: 6, A: [16]byte{1, 0, 0, 2}}, {V: 6, A: [16]byte{127}}, {V: 6, A: [16]byte{0: 255, 15: 1}},
		} {
			switch len(l) % 4 {
			case 0:
				l = append(l, asked(port, ip, 0, 1, 1))
			case 1:
				l = append(l, fresh(port, ip, m, 0))
			case 2:
				l = append(l, stale(port, ip, m, 0))
			case 3:
				l = append(l, probed(port, ip, m, 0, 1))
			}
		}
	}
	for range 5 { // the order of a map is another each time
		x, y := cache(t, wide), cache(t, wide)
		for i := range l {
			n, o := l[i], l[len(l)-1-i]
			put(t, x, n.Port, n.IP, n.State, i)
			put(t, y, o.Port, o.IP, o.State, i)
		}
		holds(t, x, l...)
		holds(t, y, l...)
	}
}

// 15.5: whatever is asked for, what is not there is not told.
func TestGetOfNone(t *testing.T) {
	x, l := all(t)
	for _, port := range []int{math.MinInt, -1, 0, 1, 7, 8, 256, 1 << 32, math.MaxInt} {
		for _, ip := range []api.IP{{}, {V: 6}, six(1), four(0), four(5), {V: 4, A: [16]byte{0: 10, 3: 1, 15: 1}}, {V: 5, A: four(1).A}, {V: 6, A: four(1).A}, {A: four(1).A}, {V: -4, A: four(1).A}, {V: 1<<32 + 4, A: four(1).A}} {
			hasNot(t, x, port, ip)
		}
		if port != 0 {
			hasNot(t, x, port, four(1))
		}
	}
	holds(t, x, l...)
}

// 15.5: to look changes nothing, not even what a Tick tells next.
func TestLookingChangesNothing(t *testing.T) {
	x := cache(t, little)
	wants(t, x, 3, six(1), 1, api.Mac{}, api.NAsk)
	wants(t, x, 3, six(1), 2, api.Mac{}, api.NWait)
	for range 10 {
		holds(t, x, asked(3, six(1), 0, 1, 2))
		hasNot(t, x, 3, six(2))
	}
	quiet(t, x, 1)
	ticks(t, x, asks{{Port: 3, IP: six(1), Try: 2}}, nil)
	learns(t, x, 3, six(1), m, api.LAnswer, 1, 2)
	holds(t, x, fresh(3, six(1), m, 0))
}
