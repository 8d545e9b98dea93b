package route_test

import (
	"math"
	"math/rand"
	"slices"
	"testing"

	"weir/api"
	"weir/route"
)

// some is drawn routes, no two of one prefix.
func (d dice) some(n int) []api.Route {
	var l model
	for len(l) < n {
		if r := d.route(); l.place(r.Prefix) < 0 {
			l = append(l, r)
		}
	}
	return l
}

// edges is the addresses at which an answer may change: both ends of each net and their neighbours by a bit.
func edges(l []api.Route) []api.IP {
	var some []api.IP
	for _, r := range l {
		low, high := r.Prefix.IP, r.Prefix.IP
		for n := r.Prefix.Len; n < size(high); n++ {
			high = flipped(high, n)
		}
		some = append(some, low, high)
		if n := r.Prefix.Len; n > 0 {
			some = append(some, flipped(low, n-1), flipped(high, n-1))
		}
	}
	return some
}

// 14.8: the address lies in the prefix of what is found, and in no longer one of the table; where nothing is found, in none.
func TestTheLongestDecides(t *testing.T) {
	d := dice{rand.New(rand.NewSource(148))}
	for range 100 {
		l := d.some(1 + d.Intn(60))
		x := table(t, l...)
		for _, a := range edges(l) {
			found, ok := x.Find(a)
			if ok && (!lies(a, found.Prefix) || !slices.Contains(l, found)) {
				t.Fatalf("Find(%s) = %s", ipText(a), text(found))
			}
			for _, r := range l {
				if lies(a, r.Prefix) && (!ok || r.Prefix.Len > found.Prefix.Len) {
					t.Fatalf("Find(%s) = %s, %v, but there is %s", ipText(a), text(found), ok, text(r))
				}
			}
			if m := x.Matches(a); ok != (len(m) > 0) || ok && m[0] != found {
				t.Fatalf("Find(%s) = %s, Matches tells %s", ipText(a), text(found), texts(m))
			}
		}
	}
}

// same wants two tables to tell the same of all routes, and of these addresses.
func same(t *testing.T, x, y *route.Table, at []api.IP) {
	t.Helper()
	holds(t, x, slices.Collect(y.All())...)
	for _, a := range at {
		finds(t, x, a, y.Matches(a)...)
	}
}

// 14.9: the order in which routes were added does not matter.
func TestAnyOrder(t *testing.T) {
	d := dice{rand.New(rand.NewSource(149))}
	for range 50 {
		l := d.some(30)
		x := table(t, l...)
		d.Shuffle(len(l), func(i, j int) { l[i], l[j] = l[j], l[i] })
		same(t, table(t, l...), x, edges(l))
	}
}

// 14.9: routes that were added and dropped again, in whatever turns, leave no trace: not in what is told, not in what may be added.
func TestNoTrace(t *testing.T) {
	d := dice{rand.New(rand.NewSource(1499))}
	for range 50 {
		l := d.some(30)
		kept, gone := l[:15], l[15:]
		x := route.New()
		for i, r := range kept {
			adds(t, x, gone[i], api.OK)
			adds(t, x, r, api.OK)
		}
		for _, i := range d.Perm(len(gone)) {
			drops(t, x, gone[i].Prefix, true)
		}
		same(t, x, table(t, kept...), edges(l))
		for _, r := range gone {
			r.Port = 7 - r.Port
			adds(t, x, r, api.OK)
			finds(t, x, r.Prefix.IP, append(model(kept), r).matches(r.Prefix.IP)...)
			drops(t, x, r.Prefix, true)
		}
		same(t, x, table(t, kept...), edges(l))
	}
}

// 14.9: a table that was full and emptied, many times, takes as many routes as a new one.
func TestRoomAgain(t *testing.T) {
	x, l := route.New(), full()
	for range 3 {
		for _, r := range l {
			adds(t, x, r, api.OK)
		}
		adds(t, x, to(t, "::/0", 0, ""), api.ErrRoutes)
		for _, r := range l {
			drops(t, x, r.Prefix, true)
		}
		holds(t, x)
	}
}

// 14.9: a route changes the answer only for addresses that lie in its prefix.
func TestOnlyWithin(t *testing.T) {
	d := dice{rand.New(rand.NewSource(14999))}
	for range 50 {
		l := d.some(30)
		r, others := l[0], l[1:]
		x, y := table(t, others...), table(t, l...)
		for _, a := range edges(l) {
			if !lies(a, r.Prefix) {
				finds(t, y, a, x.Matches(a)...)
				continue
			}
			was, _ := x.Find(a)
			if now, _ := y.Find(a); now != was && now != r {
				t.Errorf("Find(%s) = %s, without %s it is %s", ipText(a), text(now), text(r), text(was))
			}
		}
	}
}

// 14.10: answers are new memory, spare room too: whoever writes there is not seen, and nothing stands there.
func TestAnswersAreNew(t *testing.T) {
	l := within(ip(t, "10.20.30.40"))
	x := table(t, l...)
	a := ip(t, "10.20.30.40")
	other := x.Matches(a)
	for range 2 {
		m := x.Matches(a)
		for _, r := range m[len(m):cap(m)] {
			if r != (api.Route{}) {
				t.Errorf("in the spare room stands %s", text(r))
			}
		}
		m = m[:cap(m)]
		for i := range m {
			m[i] = api.Route{Port: -1}
		}
		finds(t, x, a, backwards(l)...)
		holds(t, x, l...)
	}
	if !slices.Equal(other, backwards(l)) {
		t.Error("two answers share memory")
	}
	got := slices.Collect(x.All())
	for i := range got {
		got[i] = api.Route{Port: -1}
	}
	holds(t, x, l...)
	if m := x.Matches(api.IP{}); len(m) != 0 {
		t.Errorf("Matches of none is %s", texts(m))
	}
}

// 14.10: what is handed in is kept as a value: the caller's own may be changed behind the call.
func TestHandedIn(t *testing.T) {
	r := to(t, "10.0.0.0/8", 1, "10.0.0.9")
	given := r
	x := table(t, given)
	given.Prefix.IP.A[0], given.Prefix.Len, given.Port, given.Via.A[0] = 11, 9, 2, 12
	holds(t, x, r)
	a := ip(t, "10.1.1.1")
	found, _ := x.Find(a)
	found.Port, found.Prefix.IP.A[0] = 7, 99
	finds(t, x, a, r)
}

// 14.10: whatever a call is given, it ends and answers a number of this layer.
func TestAnythingAtAll(t *testing.T) {
	d := dice{rand.New(rand.NewSource(1410))}
	numbers := []int{math.MinInt, -129, -6, -1, 0, 1, 4, 5, 6, 7, 8, 31, 32, 33, 127, 128, 129, 256, math.MaxInt}
	number := func() int { return numbers[d.Intn(len(numbers))] }
	address := func() api.IP {
		a := api.IP{V: number()}
		if d.Intn(2) == 0 {
			a = d.address()
		}
		for range d.Intn(3) {
			a.A[d.Intn(16)] = byte(d.Intn(256))
		}
		return a
	}
	known := []api.Errno{api.OK, api.ErrPrefix, api.ErrPort, api.ErrVia, api.ErrKnown, api.ErrRoutes}
	x := route.New()
	for range 20000 {
		r := api.Route{Prefix: api.Prefix{IP: address(), Len: number()}, Port: d.Intn(10) - 1, Via: address()}
		if d.Intn(2) == 0 {
			r.Via = api.IP{}
		}
		n := x.Len()
		if e := x.Add(r); !slices.Contains(known, e) || (x.Len() == n+1) != (e == api.OK) {
			t.Fatalf("Add(%v) = %d, Len() = %d", r, e, x.Len())
		}
		p, n := api.Prefix{IP: address(), Len: number()}, x.Len()
		if was := x.Drop(p); (x.Len() == n-1) != was {
			t.Fatalf("Drop(%v) = %v, Len() = %d", p, was, x.Len())
		}
		a := address()
		if found, ok := x.Find(a); ok && !lies(a, found.Prefix) || !ok && found != (api.Route{}) {
			t.Fatalf("Find(%v) = %v, %v", a, found, ok)
		}
	}
	if x.Len() < 20 {
		t.Errorf("no more than %d routes were taken", x.Len())
	}
}
