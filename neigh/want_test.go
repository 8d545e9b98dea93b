package neigh_test

import (
	"math"
	"testing"

	"weir/api"
)

type place struct {
	port int
	ip   api.IP
}

// wrongPlaces is ports and addresses of which the one or the other may not be.
func wrongPlaces() []place {
	l := []place{
		{0, api.IP{}}, {0, api.IP{V: 5}}, {0, api.IP{V: 3}}, {0, api.IP{V: 7}}, {0, api.IP{V: -4}}, {0, api.IP{V: 46}}, {0, api.IP{V: 1<<32 + 4}}, {0, api.IP{V: 1<<32 + 6}}, {0, api.IP{V: math.MaxInt}}, {0, api.IP{V: math.MinInt}},
		{0, api.IP{A: four(1).A}}, {0, api.IP{V: 5, A: four(1).A}}, {-1, api.IP{}}, {8, api.IP{V: 4, A: [16]byte{4: 1}}},
	}
	for _, port := range []int{-1, 8, 9, 256, 1 << 32, math.MinInt, math.MaxInt} {
		l = append(l, place{port, four(1)}, place{port, six(1)})
	}
	for i := 4; i < 16; i++ {
		ip := four(1)
		ip.A[i] = 1
		high := four(1)
		high.A[i] = 128
		l = append(l, place{0, ip}, place{7, high})
	}
	return l
}

// 15.2
func TestWantRefuses(t *testing.T) {
	x, l := all(t)
	for _, w := range wrongPlaces() {
		refusesWant(t, x, w.port, w.ip, 9, api.ErrArg)
		refusesWant(t, cache(t, little), w.port, w.ip, 9, api.ErrArg)
		holds(t, x, l...)
	}
}

// 15.2: each port and each edge of the addresses may be, and each has an entry of its own.
func TestPlaces(t *testing.T) {
	ips := []api.IP{{V: 4}, {V: 4, A: [16]byte{1}}, {V: 4, A: [16]byte{255, 255, 255, 255}}, {V: 6}, {V: 6, A: [16]byte{1}}, {V: 6, A: [16]byte{255, 255, 255, 255}}, {V: 6, A: [16]byte{255, 255, 255, 255, 1}}, {V: 6, A: [16]byte{15: 255}}}
	x := cache(t, wide)
	item := 0
	for port := range 8 {
		for _, ip := range ips {
			hasNot(t, x, port, ip)
			wants(t, x, port, ip, item, api.Mac{}, api.NAsk)
			item++
		}
	}
	if n := x.Waiting(); n != item || len(x.All()) != item {
		t.Errorf("%d items wait, for %d entries", n, len(x.All()))
	}
	item = 0
	for port := range 8 {
		for _, ip := range ips {
			mac := api.Mac{0, byte(port), 0, byte(item)}
			mac[5] = 1
			learns(t, x, port, ip, mac, 1+item%3, item)
			item++
		}
	}
	item = 0
	for port := range 8 {
		for _, ip := range ips {
			mac := api.Mac{0, byte(port), 0, byte(item), 0, 1}
			wants(t, x, port, ip, item, mac, []int{api.NKnown, api.NKnownAsk, api.NKnownAsk}[item%3])
			item++
		}
	}
}

// 15.2: what comes of it by the state of the entry, again and again.
func TestWantByState(t *testing.T) {
	x, l := all(t)
	for range 3 {
		refusesWant(t, x, 0, four(1), 9, api.ErrWaiting)
		wants(t, x, 0, four(2), 9, m, api.NKnown)
		wants(t, x, 0, four(4), 9, m, api.NKnown)
		holds(t, x, l...)
	}
	wants(t, x, 0, four(3), 9, m, api.NKnownAsk)
	for range 3 {
		l[2] = probed(0, four(3), m, 0, 1)
		holds(t, x, l...)
		wants(t, x, 0, four(3), 9, m, api.NKnown)
	}
	refusesWant(t, x, 0, four(5), 9, api.ErrNoNeigh)
	refusesWant(t, x, 1, four(1), 9, api.ErrNoNeigh)
	holds(t, x, l...)
}

// 15.2: an asked entry's age and tries are not touched by items that come behind.
func TestWaitBehind(t *testing.T) {
	x := cache(t, wide)
	wants(t, x, 2, six(1), 7, api.Mac{}, api.NAsk)
	quiet(t, x, 4)
	wants(t, x, 2, six(1), 7, api.Mac{}, api.NWait)
	holds(t, x, asked(2, six(1), 4, 1, 2))
	ticks(t, x, asks{{Port: 2, IP: six(1), Try: 2}}, nil)
	wants(t, x, 2, six(1), 5, api.Mac{}, api.NWait)
	holds(t, x, asked(2, six(1), 0, 2, 3))
	learns(t, x, 2, six(1), m, api.LSeen, 7, 7, 5)
}

// 15.2, 15.9: lines of each length take just as many items, whatever numbers these are.
func TestLines(t *testing.T) {
	odd := []int{0, -1, math.MinInt, math.MaxInt, 0, 7, 7, 7}
	for line := 1; line <= 64; line++ {
		c := wide
		c.Line = line
		x := cache(t, c)
		var items []int
		for i := range line {
			wants(t, x, 0, four(1), odd[i%len(odd)], api.Mac{}, []int{api.NAsk, api.NWait}[min(i, 1)])
			items = append(items, odd[i%len(odd)])
		}
		wants(t, x, 0, four(2), 1, api.Mac{}, api.NAsk) // the line of another is its own
		for range 2 {
			refusesWant(t, x, 0, four(1), 9, api.ErrWaiting)
		}
		holds(t, x, asked(0, four(1), 0, 1, line), asked(0, four(2), 0, 1, 1))
		learns(t, x, 0, four(1), m, api.LAnswer, items...)
		holds(t, x, fresh(0, four(1), m, 0), asked(0, four(2), 0, 1, 1))
	}
}

// 15.2, 15.9: caches of several sizes take just as many neighbours.
func TestMany(t *testing.T) {
	for _, most := range []int{1, 2, 3, 255, 1023, 1024} {
		c := wide
		c.Max = most
		x := cache(t, c)
		for i := range most {
			wants(t, x, i%8, api.IP{V: 6, A: [16]byte{byte(i >> 8), byte(i)}}, i, api.Mac{}, api.NAsk)
		}
		refusesWant(t, x, 0, four(1), 9, api.ErrNoNeigh)
		refusesLearn(t, x, 0, four(1), m, api.LAsk, api.ErrNoNeigh)
		if len(x.All()) != most || x.Waiting() != most {
			t.Errorf("of %d there are %d entries, %d items", most, len(x.All()), x.Waiting())
		}
	}
}

// 15.2, 15.3: the stale entry with the greatest age gives way, be it for an ask of ours or of theirs.
func TestOldestGivesWay(t *testing.T) {
	for oldest := range byte(4) {
		for _, ours := range []bool{true, false} {
			x := cache(t, api.NeighConfig{Max: 6, Line: 1, Every: 9, Tries: 2, Fresh: 9})
			put(t, x, 0, four(0), api.NAsked, 1) // older than all, but not stale
			put(t, x, 7, six(9), api.NFresh, 1)
			quiet(t, x, 1)
			put(t, x, 1, four(oldest), api.NStale, 0)
			quiet(t, x, 1)
			for d := range byte(4) {
				if d != oldest {
					put(t, x, 1, four(d), api.NStale, 0)
				}
			}
			if ours {
				wants(t, x, 5, six(1), 2, api.Mac{}, api.NAsk)
			} else {
				learns(t, x, 5, six(1), m2, api.LAsk)
			}
			for d := range byte(4) {
				if _, ok := x.Get(1, four(d)); ok == (d == oldest) {
					t.Errorf("the oldest is %d; of %d: %v", oldest, d, ok)
				}
			}
			if n := len(x.All()); n != 6 {
				t.Errorf("there are %d entries", n)
			}
		}
	}
}

// 15.2: of several as old the first by the entries' order gives way, one for each new entry, till none is stale.
func TestFirstGivesWay(t *testing.T) {
	l := []api.Neighbour{stale(0, four(9), m, 3), stale(0, six(0), m, 3), stale(1, four(1), m, 3), stale(1, four(2), m, 3), stale(1, api.IP{V: 6}, m, 3), stale(1, six(2), m, 3), stale(2, four(0), m, 3), stale(2, six(0), m, 3)}
	for shift := range l {
		x := cache(t, api.NeighConfig{Max: len(l), Line: 1, Every: 9, Tries: 2, Fresh: 9})
		for i := range l {
			n := l[(i*3+shift)%len(l)]
			put(t, x, n.Port, n.IP, api.NStale, 0)
		}
		quiet(t, x, 3)
		left, added := l, []api.Neighbour{}
		for i := range l {
			wants(t, x, 7, four(byte(i)), i, api.Mac{}, api.NAsk)
			added = append(added, asked(7, four(byte(i)), 0, 1, 1))
			left = left[1:]
			holds(t, x, append(append([]api.Neighbour{}, left...), added...)...)
		}
		refusesWant(t, x, 0, four(9), 9, api.ErrNoNeigh)
	}
}

// 15.2: while there is room no entry gives way, however old it is; nor for a neighbour that is known.
func TestNoneGivesWayEarly(t *testing.T) {
	x := cache(t, little)
	learns(t, x, 0, four(1), m, api.LAsk)
	quiet(t, x, 50)
	wants(t, x, 0, four(2), 1, api.Mac{}, api.NAsk)
	wants(t, x, 0, four(2), 2, api.Mac{}, api.NWait)
	learns(t, x, 0, four(2), m2, api.LAnswer, 1, 2)
	wants(t, x, 0, four(2), 3, m2, api.NKnown)
	learns(t, x, 0, four(3), m, api.LSeen)
	learns(t, x, 0, four(3), m, api.LAnswer)
	refusesWant(t, x, 8, four(3), 1, api.ErrArg)
	refusesLearn(t, x, 0, four(3), api.Mac{}, api.LAsk, api.ErrArg)
	holds(t, x, stale(0, four(1), m, 50), fresh(0, four(2), m2, 0))
}
