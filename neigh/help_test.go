package neigh_test

import (
	"slices"
	"testing"

	"weir/api"
	"weir/neigh"
)

var (
	m  = api.Mac{2, 0, 0, 0, 0, 1}
	m2 = api.Mac{2, 0, 0, 0, 0, 2}

	little = api.NeighConfig{Max: 2, Line: 2, Every: 2, Tries: 2, Fresh: 3}
	wide   = api.NeighConfig{Max: 1024, Line: 64, Every: 5, Tries: 3, Fresh: 4}
)

// four and six are addresses that rise with d.
func four(d byte) api.IP { return api.IP{V: 4, A: [16]byte{10, 0, 0, d}} }
func six(d byte) api.IP  { return api.IP{V: 6, A: [16]byte{0: 0x20, 1: 1, 15: d}} }

func cache(t *testing.T, c api.NeighConfig) *neigh.Cache {
	t.Helper()
	x, e := neigh.New(c)
	if x == nil || e != api.OK {
		t.Fatalf("New(%+v) = %v, %d", c, x, e)
	}
	return x
}

func wants(t *testing.T, x *neigh.Cache, port int, ip api.IP, item int, mac api.Mac, outcome int) {
	t.Helper()
	if a, o, e := x.Want(port, ip, item); a != mac || o != outcome || e != api.OK {
		t.Errorf("Want(%d, %v, %d) = %v, %d, %d; want %v, %d", port, ip, item, a, o, e, mac, outcome)
	}
}

func refusesWant(t *testing.T, x *neigh.Cache, port int, ip api.IP, item int, want api.Errno) {
	t.Helper()
	if a, o, e := x.Want(port, ip, item); a != (api.Mac{}) || o != api.NRefused || e != want {
		t.Errorf("Want(%d, %v, %d) = %v, %d, %d; want %d", port, ip, item, a, o, e, want)
	}
}

func learns(t *testing.T, x *neigh.Cache, port int, ip api.IP, mac api.Mac, how int, items ...int) {
	t.Helper()
	if l, e := x.Learn(port, ip, mac, how); !slices.Equal(l, items) || e != api.OK {
		t.Errorf("Learn(%d, %v, %v, %d) = %v, %d; want %v", port, ip, mac, how, l, e, items)
	}
}

func refusesLearn(t *testing.T, x *neigh.Cache, port int, ip api.IP, mac api.Mac, how int, want api.Errno) {
	t.Helper()
	if l, e := x.Learn(port, ip, mac, how); len(l) != 0 || e != want {
		t.Errorf("Learn(%d, %v, %v, %d) = %v, %d; want %d", port, ip, mac, how, l, e, want)
	}
}

// asks and lost are what a Tick is to tell.
type asks []api.Ask
type lost []int

func ticks(t *testing.T, x *neigh.Cache, a asks, l lost) {
	t.Helper()
	if b, k := x.Tick(); !slices.Equal(b, a) || !slices.Equal(k, l) {
		t.Errorf("Tick() = %+v, %v; want %+v, %v", b, k, a, l)
	}
}

// quiet wants so many Ticks of which none tells anything.
func quiet(t *testing.T, x *neigh.Cache, n int) {
	t.Helper()
	for i := range n {
		if a, l := x.Tick(); len(a) > 0 || len(l) > 0 {
			t.Fatalf("Tick %d of %d tells %+v, %v", i+1, n, a, l)
		}
	}
}

// holds wants a cache to tell these entries as all of its own, in this order.
func holds(t *testing.T, x *neigh.Cache, want ...api.Neighbour) {
	t.Helper()
	if l := x.All(); !slices.Equal(l, want) {
		t.Errorf("All() = %+v\nwant %+v", l, want)
	}
	items := 0
	for _, n := range want {
		items += n.Waiting
		if got, ok := x.Get(n.Port, n.IP); got != n || !ok {
			t.Errorf("Get(%d, %v) = %+v, %v; want %+v", n.Port, n.IP, got, ok, n)
		}
	}
	if n := x.Waiting(); n != items {
		t.Errorf("Waiting() = %d, want %d", n, items)
	}
}

// hasNot wants a cache to tell no entry there.
func hasNot(t *testing.T, x *neigh.Cache, port int, ip api.IP) {
	t.Helper()
	if n, ok := x.Get(port, ip); n != (api.Neighbour{}) || ok {
		t.Errorf("Get(%d, %v) = %+v, %v", port, ip, n, ok)
	}
}

func asked(port int, ip api.IP, age, tries, waiting int) api.Neighbour {
	return api.Neighbour{Port: port, IP: ip, State: api.NAsked, Age: age, Tries: tries, Waiting: waiting}
}

func fresh(port int, ip api.IP, mac api.Mac, age int) api.Neighbour {
	return api.Neighbour{Port: port, IP: ip, Mac: mac, State: api.NFresh, Age: age}
}

func stale(port int, ip api.IP, mac api.Mac, age int) api.Neighbour {
	return api.Neighbour{Port: port, IP: ip, Mac: mac, State: api.NStale, Age: age}
}

func probed(port int, ip api.IP, mac api.Mac, age, tries int) api.Neighbour {
	return api.Neighbour{Port: port, IP: ip, Mac: mac, State: api.NProbed, Age: age, Tries: tries}
}

// put brings a new entry of a port and an address into a state, with m as its MAC; item waits, if it is asked.
func put(t *testing.T, x *neigh.Cache, port int, ip api.IP, state, item int) {
	t.Helper()
	switch state {
	case api.NAsked:
		wants(t, x, port, ip, item, api.Mac{}, api.NAsk)
	case api.NFresh:
		wants(t, x, port, ip, item, api.Mac{}, api.NAsk)
		learns(t, x, port, ip, m, api.LAnswer, item)
	case api.NStale:
		learns(t, x, port, ip, m, api.LAsk)
	case api.NProbed:
		learns(t, x, port, ip, m, api.LAsk)
		wants(t, x, port, ip, item, m, api.NKnownAsk)
	}
}

// all is a cache with an entry of each state, one tick old; the item 1 waits.
func all(t *testing.T) (*neigh.Cache, []api.Neighbour) {
	t.Helper()
	x := cache(t, api.NeighConfig{Max: 4, Line: 1, Every: 5, Tries: 3, Fresh: 4})
	for state := api.NAsked; state <= api.NProbed; state++ {
		put(t, x, 0, four(byte(state)), state, state)
	}
	quiet(t, x, 1)
	l := []api.Neighbour{asked(0, four(1), 1, 1, 1), fresh(0, four(2), m, 1), stale(0, four(3), m, 1), probed(0, four(4), m, 1, 1)}
	holds(t, x, l...)
	return x, l
}
