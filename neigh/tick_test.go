package neigh_test

import (
	"testing"

	"weir/api"
)

// 15.4: every state's age, tick by tick, to its end.
func TestAges(t *testing.T) {
	x, l := all(t)
	for range 2 {
		quiet(t, x, 1)
		for i := range l {
			l[i].Age++
		}
		holds(t, x, l...)
	}
	quiet(t, x, 1)
	l[0].Age, l[1], l[2].Age, l[3].Age = 4, stale(0, four(2), m, 0), 4, 4
	holds(t, x, l...)
	for try := 2; try <= 3; try++ {
		ticks(t, x, asks{{IP: four(1), Try: try}, {IP: four(4), Mac: m, Try: try}}, nil)
		l[0].Age, l[0].Tries, l[3].Age, l[3].Tries = 0, try, 0, try
		l[1].Age++
		l[2].Age++
		holds(t, x, l...)
		quiet(t, x, 4)
		for i := range l {
			l[i].Age += 4
		}
		holds(t, x, l...)
	}
	ticks(t, x, nil, lost{1})
	holds(t, x, stale(0, four(2), m, 11), stale(0, four(3), m, 15))
	hasNot(t, x, 0, four(1))
	hasNot(t, x, 0, four(4))
}

// 15.4: all counts of ticks and asks, small ones: the ask comes just then, and the end.
func TestAsks(t *testing.T) {
	for every := 1; every <= 4; every++ {
		for tries := 1; tries <= 16; tries++ {
			x := cache(t, api.NeighConfig{Max: 2, Line: 1, Every: every, Tries: tries, Fresh: 1})
			put(t, x, 0, four(1), api.NAsked, 8)
			put(t, x, 0, four(2), api.NProbed, 9)
			for try := 2; try <= tries; try++ {
				quiet(t, x, every-1)
				ticks(t, x, asks{{IP: four(1), Try: try}, {IP: four(2), Mac: m, Try: try}}, nil)
				holds(t, x, asked(0, four(1), 0, try, 1), probed(0, four(2), m, 0, try))
			}
			quiet(t, x, every-1)
			ticks(t, x, nil, lost{8})
			holds(t, x)
			quiet(t, x, 5)
		}
	}
}

// 15.4: what is confirmed goes stale at its tick, neither sooner nor later, and is then no older than new.
func TestGoesStale(t *testing.T) {
	for after := 1; after <= 6; after++ {
		x := cache(t, api.NeighConfig{Max: 1, Line: 1, Every: 3, Tries: 1, Fresh: after})
		put(t, x, 0, four(1), api.NFresh, 1)
		for age := range after {
			holds(t, x, fresh(0, four(1), m, age))
			wants(t, x, 0, four(1), 2, m, api.NKnown) // use does not confirm it
			quiet(t, x, 1)
		}
		holds(t, x, stale(0, four(1), m, 0))
		quiet(t, x, 1)
		holds(t, x, stale(0, four(1), m, 1))
	}
}

// 15.4: what goes stale in a tick is not asked for in it, whatever its age was.
func TestStaleIsNotAsked(t *testing.T) {
	x := cache(t, api.NeighConfig{Max: 1, Line: 1, Every: 2, Tries: 3, Fresh: 2})
	put(t, x, 0, four(1), api.NFresh, 1)
	quiet(t, x, 20)
	holds(t, x, stale(0, four(1), m, 18))
}

// 15.4: the asks and the lost items of one tick, by the entries' order, each line as it came.
func TestTold(t *testing.T) {
	places := []place{{0, four(1)}, {0, four(2)}, {0, six(1)}, {1, four(0)}, {1, api.IP{V: 6}}, {3, six(1)}, {3, six(2)}, {7, four(0)}}
	c := wide
	c.Every, c.Tries = 2, 2
	for shift := range places {
		x := cache(t, c)
		for i := range places {
			at := (i*5 + shift) % len(places)
			p := places[at]
			if at%3 == 2 {
				put(t, x, p.port, p.ip, api.NProbed, 0)
				continue
			}
			wants(t, x, p.port, p.ip, at*10+2, api.Mac{}, api.NAsk)
			wants(t, x, p.port, p.ip, at*10+1, api.Mac{}, api.NWait)
		}
		var a asks
		var l lost
		for at, p := range places {
			ask := api.Ask{Port: p.port, IP: p.ip, Try: 2}
			if at%3 == 2 {
				ask.Mac = m
			} else {
				l = append(l, at*10+2, at*10+1)
			}
			a = append(a, ask)
		}
		quiet(t, x, 1)
		ticks(t, x, a, nil)
		quiet(t, x, 1)
		ticks(t, x, nil, l)
		holds(t, x)
	}
}

// 15.4: asks and lost items in one tick; an entry that is gone may begin again.
func TestAskedAndLost(t *testing.T) {
	x := cache(t, little)
	put(t, x, 0, four(2), api.NAsked, 1)
	quiet(t, x, 1)
	ticks(t, x, asks{{IP: four(2), Try: 2}}, nil)
	put(t, x, 0, four(1), api.NAsked, 2)
	refusesWant(t, x, 0, four(3), 3, api.ErrNoNeigh)
	quiet(t, x, 1)
	ticks(t, x, asks{{IP: four(1), Try: 2}}, lost{1})
	hasNot(t, x, 0, four(2))
	wants(t, x, 0, four(2), 4, api.Mac{}, api.NAsk)
	holds(t, x, asked(0, four(1), 0, 2, 1), asked(0, four(2), 0, 1, 1))
	learns(t, x, 0, four(2), m, api.LAnswer, 4)
}

// 15.4: the greatest counts of ticks: an ask, what is confirmed, and what is stale, which then gets no older.
func TestGreatAges(t *testing.T) {
	const most = 1048576
	x := cache(t, api.NeighConfig{Max: 5, Line: 1, Every: most, Tries: 2, Fresh: most})
	put(t, x, 0, four(5), api.NStale, 0)
	quiet(t, x, 1)
	put(t, x, 0, four(1), api.NAsked, 1)
	put(t, x, 0, four(2), api.NFresh, 2)
	put(t, x, 0, four(3), api.NStale, 0)
	put(t, x, 0, four(4), api.NProbed, 0)
	quiet(t, x, most-2)
	holds(t, x, asked(0, four(1), most-2, 1, 1), fresh(0, four(2), m, most-2), stale(0, four(3), m, most-2), probed(0, four(4), m, most-2, 1), stale(0, four(5), m, most-1))
	quiet(t, x, 1)
	holds(t, x, asked(0, four(1), most-1, 1, 1), fresh(0, four(2), m, most-1), stale(0, four(3), m, most-1), probed(0, four(4), m, most-1, 1), stale(0, four(5), m, most))
	ticks(t, x, asks{{IP: four(1), Try: 2}, {IP: four(4), Mac: m, Try: 2}}, nil)
	holds(t, x, asked(0, four(1), 0, 2, 1), stale(0, four(2), m, 0), stale(0, four(3), m, most), probed(0, four(4), m, 0, 2), stale(0, four(5), m, most))
	quiet(t, x, 3)
	wants(t, x, 0, four(6), 6, api.Mac{}, api.NAsk) // both have the greatest age: the first gives way, though it is the younger
	holds(t, x, asked(0, four(1), 3, 2, 1), stale(0, four(2), m, 3), probed(0, four(4), m, 3, 2), stale(0, four(5), m, most), asked(0, four(6), 0, 1, 1))
	wants(t, x, 0, four(5), 5, m, api.NKnownAsk)
	holds(t, x, asked(0, four(1), 3, 2, 1), stale(0, four(2), m, 3), probed(0, four(4), m, 3, 2), probed(0, four(5), m, 0, 1), asked(0, four(6), 0, 1, 1))
	quiet(t, x, most-4)
	ticks(t, x, nil, lost{1})
	holds(t, x, stale(0, four(2), m, most), probed(0, four(5), m, most-3, 1), asked(0, four(6), most-3, 1, 1))
}
