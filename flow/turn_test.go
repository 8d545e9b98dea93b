package flow_test

import (
	"fmt"
	"math"
	"math/rand"
	"slices"
	"testing"

	"weir/api"
	"weir/flow"
)

// turn is one drawn call that may be, as a text of what it answers.
func (d dice) turn(f *flow.Table, c api.FlowConfig) string {
	l := f.Dump()
	switch d.Intn(5) {
	case 0, 1:
		return fmt.Sprint(f.Out(d.going(l), d.flags()))
	case 2, 3:
		return fmt.Sprint(f.In(d.coming(c, l), d.flags()))
	}
	return fmt.Sprint(f.Tick())
}

// outwards are the tuples with which the packets of these flows go out.
func outwards(l []api.Flow) []api.Tuple {
	var y []api.Tuple
	for _, f := range l {
		x := f.Tuple
		x.Sport = f.Port
		if x.Src.V == 4 {
			x.Src = outside
		}
		y = append(y, x)
	}
	return y
}

// 17.8, 17.11: no two flows of version 4 share a port of one protocol, nor any two the tuple they go out with; each port lies
// from Lo to Hi, or is that of version 6; never more flows than Max, and none with more time than its state's.
func TestNothingIsShared(t *testing.T) {
	d := dice{rand.New(rand.NewSource(178))}
	full := 0
	for range 800 {
		c := d.config()
		f := table(t, c)
		for range 200 {
			d.turn(f, c)
			l := f.Dump()
			if len(l) > c.Max || f.Len() != len(l) {
				t.Fatalf("of %+v there are %d, told %d", c, f.Len(), len(l))
			}
			if len(l) == c.Max {
				full++
			}
			ports, tuples := map[[2]int]int{}, map[api.Tuple]int{}
			for i, y := range outwards(l) {
				x := l[i].Tuple
				if ports[[2]int{x.Proto, l[i].Port}]++; x.Src.V == 6 {
					ports[[2]int{x.Proto, l[i].Port}]--
				}
				tuples[y]++
				if ports[[2]int{x.Proto, l[i].Port}] > 1 || tuples[y] > 1 {
					t.Fatalf("of %+v: %+v", c, l)
				}
				if x.Src.V == 4 && (l[i].Port < c.Lo || l[i].Port > c.Hi) || x.Src.V == 6 && l[i].Port != x.Sport {
					t.Fatalf("of %+v: %+v", c, l[i])
				}
				most := map[int]int{1: c.Icmp, 58: c.Icmp, 17: c.Udp}[x.Proto]
				if x.Proto == 6 {
					most = timeOf(c, l[i].State)
				}
				if l[i].Left < 1 || l[i].Left > most || (l[i].State == api.FAlive) != (x.Proto != 6) {
					t.Fatalf("of %+v: %+v", c, l[i])
				}
			}
		}
	}
	if full < 1000 {
		t.Errorf("it was full %d times", full)
	}
}

// 17.9: what went out finds back to who sent it as long as the flow is there, whatever was between; a reset may always come in.
func TestAnswersFindBack(t *testing.T) {
	d := dice{rand.New(rand.NewSource(179))}
	found := 0
	for range 1000 {
		c := d.config()
		f, sent := table(t, c), map[api.Tuple]api.Tuple{} // by what went out: who sent it last
		for range 100 {
			l := f.Dump()
			switch d.Intn(5) {
			case 0:
				f.Tick()
			case 1:
				f.In(d.coming(c, l), d.flags())
			default:
				x := d.going(l)
				if y, e := f.Out(x, d.flags()); e == api.OK {
					sent[y] = x
				}
			}
		}
		l := f.Dump()
		found += len(l)
		for i, y := range outwards(l) {
			if sent[y] != l[i].Tuple {
				t.Errorf("%v was sent by %v, not by %v", y, sent[y], l[i].Tuple)
			}
			comesIn(t, f, back(y), rstF, back(sent[y]))
		}
		holdsOthers(t, f, l)
	}
	if found < 1000 {
		t.Errorf("%d found back", found)
	}
}

// holdsOthers wants a table to hold those of these flows that no reset ends, and no more.
func holdsOthers(t *testing.T, f *flow.Table, l []api.Flow) {
	t.Helper()
	var want []api.Tuple
	for _, x := range l {
		if x.Tuple.Proto != 6 {
			want = append(want, x.Tuple)
		}
	}
	var told []api.Tuple
	for _, x := range f.Dump() {
		told = append(told, x.Tuple)
	}
	if !slices.Equal(told, want) {
		t.Errorf("there are %v, want %v", told, want)
	}
}

// 17.9: each segment that may come in, right behind what went out.
func TestAnswerAtOnce(t *testing.T) {
	d := dice{rand.New(rand.NewSource(1799))}
	n := 0
	for range 300 {
		c := d.config()
		f := table(t, c)
		for range 100 {
			x := d.going(f.Dump())
			y, e := f.Out(x, d.flags())
			if e != api.OK || !slices.ContainsFunc(f.Dump(), func(g api.Flow) bool { return g.Tuple == x }) {
				d.turn(f, c)
				continue
			}
			z, e := f.In(back(y), d.flags())
			if e == api.OK && z == back(x) {
				n++
			} else if e != api.ErrState || x.Proto != 6 {
				t.Fatalf("Out(%v) = %v; In of its reverse is %v, %d", x, y, z, e)
			}
		}
	}
	if n < 1000 {
		t.Errorf("%d found back", n)
	}
}

// 17.10: what comes in begins no flow, and is answered only with the reverse of what has gone out before.
func TestNothingUnasked(t *testing.T) {
	d := dice{rand.New(rand.NewSource(1710))}
	in := 0
	for range 800 {
		c := d.config()
		f, gone := table(t, c), map[api.Tuple]int{}
		for range 200 {
			l := f.Dump()
			switch d.Intn(6) {
			case 0, 1:
				x := d.going(l)
				if _, e := f.Out(x, d.flags()); e == api.OK {
					gone[x]++
				}
			case 2:
				f.Tick()
			default:
				y, e := f.In(d.coming(c, l), d.flags())
				if f.Len() > len(l) {
					t.Fatalf("In has begun a flow: %+v, was %+v", f.Dump(), l)
				}
				if e == api.OK {
					in++
				}
				if e == api.OK && gone[back(y)] == 0 || e != api.OK && y != (api.Tuple{}) {
					t.Fatalf("In answers %v, %d", y, e)
				}
			}
		}
	}
	if in < 1000 {
		t.Errorf("%d came in", in)
	}
}

// 17.11: whatever was before, a flow of which nothing is taken ends just in the Tick in which its time is over.
func TestEachEndsInTime(t *testing.T) {
	d := dice{rand.New(rand.NewSource(1711))}
	for range 1000 {
		c := d.config()
		f := table(t, c)
		for range d.Intn(60) {
			d.turn(f, c)
		}
		for l := f.Dump(); len(l) > 0; {
			var left []api.Flow
			for _, x := range l {
				if x.Left--; x.Left > 0 {
					left = append(left, x)
				}
			}
			ticks(t, f, len(l)-len(left))
			holds(t, f, left...)
			l = left
		}
	}
}

// offend gives a table what it must refuse: what is no tuple, protocols and segments that may not be, what nobody asked
// for, flows for which there is no room.
func offend(t *testing.T, d dice, f *flow.Table, c api.FlowConfig) {
	t.Helper()
	x := d.odd()
	if _, e := f.Out(x, synF); e != api.ErrTuple && e != api.ErrProto {
		t.Fatalf("Out(%v): %d", x, e)
	}
	if _, e := f.In(x, synF); e != api.ErrTuple && e != api.ErrProto {
		t.Fatalf("In(%v): %d", x, e)
	}
	l := f.Dump()
	for i, y := range outwards(l) {
		if l[i].Tuple.Proto == 6 {
			refusesOut(t, f, l[i].Tuple, pick(d, synF|ackF, synF|finF, synF|finF|ackF), api.ErrState)
			refusesIn(t, f, back(y), pick(d, synF, synF|finF), api.ErrState)
		}
	}
	refusesIn(t, f, tup(17, r, 9, outside, c.Lo), 0, api.ErrNoFlow)
	refusesOut(t, f, tup(6, a, 99, r, 80), pick(d, 0, ackF, finF, rstF, synF|ackF), api.ErrState)
	refusesOut(t, f, tup(1, a, 0, r, d.Intn(2)), 0, api.ErrState)
	if len(l) == c.Max {
		refusesOut(t, f, tup(17, six(9), 5, six(8), 5), 0, api.ErrFlows)
	}
}

// 17.12: two tables that are given the same tell the same, though the one was besides given all that is refused.
func TestRefusedChangesNothing(t *testing.T) {
	for seed := range int64(300) {
		d, e := dice{rand.New(rand.NewSource(seed))}, dice{rand.New(rand.NewSource(seed))}
		other := dice{rand.New(rand.NewSource(-seed - 1))}
		c, _ := d.config(), e.config()
		f, g := table(t, c), table(t, c)
		for n := range 100 {
			if x, y := d.turn(f, c), e.turn(g, c); x != y {
				t.Fatalf("turn %d tells %s and %s", n, x, y)
			}
			offend(t, other, g, c)
			if x, y := f.Dump(), g.Dump(); !slices.Equal(x, y) {
				t.Fatalf("behind turn %d there is %+v and %+v", n, x, y)
			}
		}
	}
}

// 17.1, 17.12: tables that are used turn by turn are as they are each alone.
func TestNothingInCommon(t *testing.T) {
	for seed := range int64(100) {
		d, e := dice{rand.New(rand.NewSource(seed))}, dice{rand.New(rand.NewSource(seed))}
		other := dice{rand.New(rand.NewSource(-seed - 1))}
		c, _ := d.config(), e.config()
		alone, f, g := table(t, c), table(t, c), table(t, c)
		for n := range 100 {
			x := d.turn(alone, c)
			other.turn(g, c)
			if y := e.turn(f, c); x != y {
				t.Fatalf("turn %d tells %s, alone %s", n, y, x)
			}
			if x, y := alone.Dump(), f.Dump(); !slices.Equal(x, y) {
				t.Fatalf("behind turn %d there is %+v, alone %+v", n, y, x)
			}
		}
	}
}

// 17.12: whatever a call is given, it ends and answers a number of this layer.
func TestAnythingAtAll(t *testing.T) {
	d := dice{rand.New(rand.NewSource(1712))}
	number := func() int {
		return pick(d, math.MinInt, -1, 0, 1, 2, 4, 4, 4, 4, 6, 6, 6, 6, 6, 8, 16, 17, 17, 58, 65535, 65536, 1<<32, math.MaxInt)
	}
	address := func() api.IP {
		ip := api.IP{V: number()}
		for range d.Intn(3) {
			ip.A[d.Intn(16)] = byte(d.Intn(4))
		}
		return ip
	}
	any := func() api.Tuple { return tup(number(), address(), number(), address(), number()) }
	known := []api.Errno{api.OK, api.ErrTuple, api.ErrFlows, api.ErrPorts, api.ErrState, api.ErrProto, api.ErrNoFlow}
	f := table(t, api.FlowConfig{Max: 20, Outside: outside, Lo: 1, Hi: 9, Syn: 4, Tcp: 4, Fin: 4, Udp: 4, Icmp: 4})
	taken := 0
	for range 100000 {
		x, flags := any(), number()
		y, e := f.Out(x, flags)
		if !slices.Contains(known, e) || (y == api.Tuple{}) != (e != api.OK) {
			t.Fatalf("Out(%v, %d) = %v, %d", x, flags, y, e)
		}
		if e == api.OK {
			taken++
		}
		x, flags = any(), number()
		if y, e := f.In(x, flags); !slices.Contains(known, e) || (y == api.Tuple{}) != (e != api.OK) {
			t.Fatalf("In(%v, %d) = %v, %d", x, flags, y, e)
		}
		if d.Intn(50) == 0 {
			f.Tick()
		}
		p := carriers()[d.Intn(8)]
		p.Kind, p.L4 = pick(d, p.Kind, p.Kind, number()), pick(d, p.L4, p.L4, number())
		if _, e := flow.Rewrite(p, x); e != api.OK && e != api.ErrRewrite {
			t.Fatalf("Rewrite(%+v, %v): %d", p, x, e)
		}
		c := api.FlowConfig{Max: number(), Outside: address(), Lo: number(), Hi: number(), Syn: number(), Tcp: number(), Fin: number(), Udp: number(), Icmp: number()}
		if g, e := flow.New(c); (g == nil) != (e == api.ErrFlowConfig) || g != nil && e != api.OK {
			t.Fatalf("New(%+v) = %v, %d", c, g, e)
		}
	}
	if taken < 50 {
		t.Errorf("%d were taken", taken)
	}
}
