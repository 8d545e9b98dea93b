package flow_test

import (
	"math"
	"testing"

	"weir/api"
	"weir/flow"
)

// 17.1 to 17.6: the examples.
func TestExamples(t *testing.T) {
	f := table(t, little)
	holds(t, f)
	goesOut(t, f, tup(17, a, 5000, r, 53), 0, tup(17, outside, 1000, r, 53))
	goesOut(t, f, tup(17, b, 1000, r, 53), 0, tup(17, outside, 1001, r, 53))
	refusesOut(t, f, tup(17, b, 1001, r, 53), 0, api.ErrFlows)
	goesOut(t, f, tup(17, a, 5000, r, 53), 0, tup(17, outside, 1000, r, 53))
	comesIn(t, f, tup(17, r, 53, outside, 1001), 0, tup(17, r, 53, b, 1000))
	refusesIn(t, f, tup(17, r, 54, outside, 1001), 0, api.ErrNoFlow)
	ticks(t, f, 0, 0, 0, 2)
	x := tup(6, a, 1001, r, 80)
	refusesOut(t, f, x, ackF, api.ErrState)
	goesOut(t, f, x, synF, tup(6, outside, 1001, r, 80))
	holds(t, f, api.Flow{Tuple: x, Port: 1001, State: api.FOpening, Left: 2})
	refusesIn(t, f, tup(6, r, 80, outside, 1001), ackF, api.ErrState)
	comesIn(t, f, tup(6, r, 80, outside, 1001), synF|ackF, tup(6, r, 80, a, 1001))
	holds(t, f, api.Flow{Tuple: x, Port: 1001, State: api.FOpened, Left: 2})
	goesOut(t, f, x, ackF, tup(6, outside, 1001, r, 80))
	holds(t, f, api.Flow{Tuple: x, Port: 1001, State: api.FLive, Left: 9})
	comesIn(t, f, tup(6, r, 80, outside, 1001), rstF, tup(6, r, 80, a, 1001))
	holds(t, f)
	goesOut(t, f, tup(1, a, 7, r, 0), 0, tup(1, outside, 1000, r, 0))
	comesIn(t, f, tup(1, r, 0, outside, 1000), 0, tup(1, r, 0, a, 7))
	refusesOut(t, f, tup(1, a, 0, r, 7), 0, api.ErrState)
	refusesOut(t, f, tup(1, a, 0, r, 0), 0, api.ErrState)
	refusesOut(t, f, tup(47, a, 0, r, 0), 0, api.ErrProto)
}

// fields is those of a configuration that are numbers, each with the least and the most that it may be.
func fields(c *api.FlowConfig) map[*int][2]int {
	m := map[*int][2]int{&c.Max: {1, 4096}, &c.Lo: {1, c.Hi}, &c.Hi: {c.Lo, 65535}}
	for _, ticks := range []*int{&c.Syn, &c.Tcp, &c.Fin, &c.Udp, &c.Icmp} {
		m[ticks] = [2]int{1, 1048576}
	}
	return m
}

func refusesNew(t *testing.T, c api.FlowConfig) {
	t.Helper()
	if f, e := flow.New(c); f != nil || e != api.ErrFlowConfig {
		t.Errorf("New(%+v) = %v, %d", c, f, e)
	}
}

// 17.1: both ends of each number, the others being small and great.
func TestNew(t *testing.T) {
	low := api.FlowConfig{Max: 1, Outside: outside, Lo: 1, Hi: 1, Syn: 1, Tcp: 1, Fin: 1, Udp: 1, Icmp: 1}
	high := api.FlowConfig{Max: 4096, Outside: outside, Lo: 65535, Hi: 65535, Syn: 1048576, Tcp: 1048576, Fin: 1048576, Udp: 1048576, Icmp: 1048576}
	for _, c := range []api.FlowConfig{low, high, little, wide} {
		for f, ends := range fields(&c) {
			was := *f
			for _, n := range []int{ends[0], min(ends[0]+1, ends[1]), max(ends[1]-1, ends[0]), ends[1]} {
				*f = n
				x := table(t, c)
				holds(t, x)
				ticks(t, x, 0)
			}
			for _, n := range []int{ends[0] - 1, -1, -ends[1], ends[1] + 1, ends[1] + 2, math.MinInt, math.MaxInt, 1 << 32, 1<<32 + ends[0]} {
				*f = n
				refusesNew(t, c)
			}
			*f = was
		}
	}
	refusesNew(t, api.FlowConfig{})
	c := little
	c.Lo, c.Hi = c.Hi, c.Lo
	refusesNew(t, c)
}

// 17.1: the outside address is of version 4, and of a class that a station may have.
func TestOutside(t *testing.T) {
	for _, ip := range []api.IP{outside, a, four(169, 254, 0, 0), four(169, 254, 255, 255), four(1, 0, 0, 0), four(126, 255, 255, 255), four(128, 0, 0, 0), four(223, 255, 255, 255), four(192, 0, 2, 0)} {
		c := little
		c.Outside = ip
		f := table(t, c)
		goesOut(t, f, tup(17, a, 5, r, 6), 0, tup(17, ip, 1000, r, 6))
		comesIn(t, f, tup(17, r, 6, ip, 1000), 0, tup(17, r, 6, a, 5))
	}
	for _, ip := range []api.IP{
		{}, {V: 4}, six(1), {V: 6}, {V: 6, A: [16]byte{0: 0xfe, 1: 0x80, 15: 1}}, {V: 6, A: outside.A}, {V: 5, A: outside.A}, {A: outside.A}, {V: -4, A: outside.A}, {V: 1<<32 + 4, A: outside.A},
		{V: 4, A: [16]byte{192, 0, 2, 9, 1}}, {V: 4, A: [16]byte{0: 192, 2: 2, 3: 9, 15: 1}},
		four(0, 0, 0, 1), four(0, 255, 255, 255), four(127, 0, 0, 1), four(127, 255, 255, 255), four(224, 0, 0, 1), four(239, 255, 255, 255), four(240, 0, 0, 1), four(255, 255, 255, 255),
	} {
		c := little
		c.Outside = ip
		refusesNew(t, c)
	}
}

// 17.1: the numbers of the configuration are not taken for one another.
func TestEachNumber(t *testing.T) {
	c := api.FlowConfig{Max: 6, Outside: outside, Lo: 20, Hi: 23, Syn: 2, Tcp: 3, Fin: 4, Udp: 5, Icmp: 6}
	f := table(t, c)
	for i := range 4 {
		x := tup(17, a, 30+i, r, 53)
		goesOut(t, f, x, 0, from(x, 20+i))
	}
	refusesOut(t, f, tup(17, a, 34, r, 53), 0, api.ErrPorts)
	goesOut(t, f, tup(1, a, 30, r, 0), 0, tup(1, outside, 20, r, 0))
	goesOut(t, f, tup(6, a, 30, r, 80), synF, tup(6, outside, 20, r, 80))
	refusesOut(t, f, tup(6, a, 31, r, 80), synF, api.ErrFlows)
	ticks(t, f, 0, 1, 0, 0, 4, 1, 0)
	x := tup(6, a, 30, r, 80)
	for state, n := range map[int]int{api.FOpening: 2, api.FOpened: 2, api.FLive: 3, api.FOutFin: 4, api.FInFin: 4, api.FClosing: 4} {
		holds(t, bring(t, c, x, state), api.Flow{Tuple: x, Port: 20, State: state, Left: n})
	}
}

// 17.1: tables that are used turn by turn have nothing in common.
func TestTwoTables(t *testing.T) {
	other := little
	other.Outside, other.Udp = b, 2
	f, g := table(t, little), table(t, other)
	x := tup(17, a, 1001, r, 53)
	goesOut(t, f, x, 0, tup(17, outside, 1001, r, 53))
	holds(t, g)
	refusesIn(t, g, tup(17, r, 53, outside, 1001), 0, api.ErrNoFlow)
	refusesIn(t, g, tup(17, r, 53, b, 1001), 0, api.ErrNoFlow)
	ticks(t, f, 0)
	goesOut(t, g, x, 0, tup(17, b, 1001, r, 53))
	ticks(t, g, 0, 1)
	holds(t, f, api.Flow{Tuple: x, Port: 1001, State: api.FAlive, Left: 3})
	holds(t, g)
	comesIn(t, f, tup(17, r, 53, outside, 1001), 0, back(x))
}
