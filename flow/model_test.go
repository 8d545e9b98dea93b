package flow_test

import (
	"fmt"
	"math/rand"
	"slices"
	"testing"

	"weir/api"
	"weir/flow"
	"weir/packet"
)

// model is a second reading of the chapter: flows in a list, looked through one by one, that is kept sorted.
type model struct {
	api.FlowConfig
	next []map[string]int
	list []api.Flow
}

func newModel(c api.FlowConfig) *model { return &model{FlowConfig: c, next: nextStates()} }

func modelCheck(x api.Tuple) api.Errno {
	for _, ip := range []api.IP{x.Src, x.Dst} {
		if ip.V != 4 && ip.V != 6 || ip.V == 4 && slices.Max(ip.A[4:]) > 0 {
			return api.ErrTuple
		}
	}
	if x.Src.V != x.Dst.V || x.Sport < 0 || x.Dport < 0 || x.Sport > 65535 || x.Dport > 65535 {
		return api.ErrTuple
	}
	known := map[int][]int{4: {1, 6, 17}, 6: {6, 17, 58}}
	if !slices.Contains(known[x.Src.V], x.Proto) {
		return api.ErrProto
	}
	return api.OK
}

// seen is the tuple with which a flow's packets go out.
func (m *model) seen(f api.Flow) api.Tuple {
	y := f.Tuple
	y.Sport = f.Port
	if y.Src.V == 4 {
		y.Src = m.Outside
	}
	return y
}

func (m *model) taken(proto, port int) bool {
	return slices.ContainsFunc(m.list, func(f api.Flow) bool {
		return f.Tuple.Src.V == 4 && f.Tuple.Proto == proto && f.Port == port
	})
}

func (m *model) port(x api.Tuple) int {
	if x.Src.V == 6 {
		return x.Sport
	}
	ports := []int{x.Sport}
	if x.Sport < m.Lo || x.Sport > m.Hi {
		ports = nil
	}
	for p := m.Lo; p <= m.Hi; p++ {
		ports = append(ports, p)
	}
	for _, p := range ports {
		if !m.taken(x.Proto, p) {
			return p
		}
	}
	return -1
}

// state is the one behind a packet, and its time.
func (m *model) state(x api.Tuple, state int, way string, flags int) (int, int) {
	switch x.Proto {
	case 6:
		s := m.next[state][way+segment(flags)]
		return s, timeOf(m.FlowConfig, max(s, 0))
	case 17:
		return api.FAlive, m.Udp
	}
	return api.FAlive, m.Icmp
}

// put lays a flow in its place, in the place of one of the same tuple if there is one.
func (m *model) put(f api.Flow) {
	m.list = slices.DeleteFunc(m.list, func(g api.Flow) bool { return g.Tuple == f.Tuple })
	if f.State != ended {
		m.list = append(m.list, f)
	}
	key := func(f api.Flow) string {
		x := f.Tuple
		return fmt.Sprintf("%d %d %x %05d %d %x %05d", 100+x.Proto, x.Src.V, x.Src.A, x.Sport, x.Dst.V, x.Dst.A, x.Dport)
	}
	slices.SortFunc(m.list, func(f, g api.Flow) int {
		if key(f) < key(g) {
			return -1
		}
		return 1
	})
}

func (m *model) Out(x api.Tuple, flags int) (api.Tuple, api.Errno) {
	if e := modelCheck(x); e != api.OK {
		return api.Tuple{}, e
	}
	f := api.Flow{Tuple: x}
	i := slices.IndexFunc(m.list, func(f api.Flow) bool { return f.Tuple == x })
	if i >= 0 {
		f = m.list[i]
	}
	f.State, f.Left = m.state(x, f.State, "out: ", flags)
	if f.State == 0 {
		return api.Tuple{}, api.ErrState
	}
	if i < 0 {
		if (x.Proto == 1 || x.Proto == 58) && (x.Dport > 0 || x.Sport == 0) {
			return api.Tuple{}, api.ErrState
		}
		if len(m.list) >= m.Max {
			return api.Tuple{}, api.ErrFlows
		}
		if f.Port = m.port(x); f.Port < 0 {
			return api.Tuple{}, api.ErrPorts
		}
	}
	m.put(f)
	return m.seen(f), api.OK
}

func (m *model) In(x api.Tuple, flags int) (api.Tuple, api.Errno) {
	if e := modelCheck(x); e != api.OK {
		return api.Tuple{}, e
	}
	i := slices.IndexFunc(m.list, func(f api.Flow) bool { return packet.Reverse(m.seen(f)) == x })
	if i < 0 {
		return api.Tuple{}, api.ErrNoFlow
	}
	f := m.list[i]
	if f.State, f.Left = m.state(x, f.State, "in: ", flags); f.State == 0 {
		return api.Tuple{}, api.ErrState
	}
	m.put(f)
	return packet.Reverse(f.Tuple), api.OK
}

func (m *model) Tick() int {
	for i := range m.list {
		m.list[i].Left--
	}
	n := len(m.list)
	m.list = slices.DeleteFunc(m.list, func(f api.Flow) bool { return f.Left == 0 })
	return n - len(m.list)
}

// dice draws what a table is given: few addresses and ports, so that they meet.
type dice struct{ *rand.Rand }

func pick[T any](d dice, l ...T) T { return l[d.Intn(len(l))] }

func (d dice) config() api.FlowConfig {
	lo := 1 + d.Intn(5)
	return api.FlowConfig{
		Max: 1 + d.Intn(8), Outside: outside, Lo: lo, Hi: lo + d.Intn(5),
		Syn: 1 + d.Intn(4), Tcp: 1 + d.Intn(9), Fin: 1 + d.Intn(4), Udp: 1 + d.Intn(6), Icmp: 1 + d.Intn(4),
	}
}

// tuple is one as it is seen inside.
func (d dice) tuple() api.Tuple {
	x := tup(pick(d, 6, 6, 6, 17, 1), pick(d, a, b), d.Intn(8), pick(d, r, outside), d.Intn(2))
	if d.Intn(3) == 0 {
		x = tup(pick(d, 6, 6, 17, 58), six(byte(d.Intn(2))), d.Intn(3), six(byte(d.Intn(2))), d.Intn(3))
	}
	if (x.Proto == 1 || x.Proto == 58) && d.Intn(8) > 0 {
		x.Dport = 0
	}
	return x
}

// odd is a tuple that may not be, or of a protocol that is not tracked.
func (d dice) odd() api.Tuple {
	if l := oddTuples(); d.Intn(2) == 0 {
		return l[d.Intn(len(l))]
	}
	x := d.tuple()
	x.Proto = pick(d, 0, 47, -6, 59-x.Proto, 1<<32+6)
	if x.Proto == 1 || x.Proto == 58 {
		x.Src, x.Dst = six(1), six(2)
		if x.Proto == 58 {
			x.Src, x.Dst = a, r
		}
	}
	return x
}

// flags are those of a segment, likely to be one that is common.
func (d dice) flags() int {
	return pick(d, synF, synF, synF|ackF, synF|ackF, ackF, ackF, ackF|8, finF, finF|ackF, rstF, d.Intn(64), d.Intn(64))
}

// coming is a tuple that is likely to come in for one of these flows.
func (d dice) coming(c api.FlowConfig, l []api.Flow) api.Tuple {
	if len(l) == 0 || d.Intn(8) == 0 {
		return back(from(d.tuple(), c.Lo+d.Intn(5)))
	}
	f := l[d.Intn(len(l))]
	y := f.Tuple
	if y.Src.V == 4 {
		y = from(y, f.Port)
	}
	switch d.Intn(12) {
	case 0:
		y.Sport = c.Lo + d.Intn(5)
	case 1:
		y.Dport ^= 1
	case 2:
		y.Src = pick(d, a, b, six(0), six(1))
	case 3:
		y.Proto = pick(d, 1, 6, 17, 58)
	case 4:
		y.Dst.A[3] ^= 1
	}
	return back(y)
}

// going is a tuple that is likely to be that of one of these flows.
func (d dice) going(l []api.Flow) api.Tuple {
	if len(l) > 0 && d.Intn(2) == 0 {
		return l[d.Intn(len(l))].Tuple
	}
	return d.tuple()
}

// like is one drawn turn of both, and what they tell behind it.
func like(t *testing.T, d dice, f *flow.Table, m *model, count map[api.Errno]int) {
	t.Helper()
	flags := d.flags()
	both := func(x api.Tuple, table, model func(api.Tuple, int) (api.Tuple, api.Errno)) {
		t.Helper()
		y, e := table(x, flags)
		want, wantE := model(x, flags)
		if y != want || e != wantE {
			t.Errorf("of %v, %d it tells %v, %d, want %v, %d", x, flags, y, e, want, wantE)
		}
		count[e]++
	}
	switch n := d.Intn(20); {
	case n < 8:
		both(d.going(m.list), f.Out, m.Out)
	case n < 15:
		both(d.coming(m.FlowConfig, m.list), f.In, m.In)
	case n < 16:
		x := d.odd()
		both(x, f.Out, m.Out)
		both(x, f.In, m.In)
	default:
		ticks(t, f, m.Tick())
	}
	holds(t, f, m.list...)
}

// 17.2 to 17.6: drawn turns, held against the model.
func TestAgainstTheModel(t *testing.T) {
	d, count := dice{rand.New(rand.NewSource(17))}, map[api.Errno]int{}
	for range 1500 {
		c := d.config()
		f, m := table(t, c), newModel(c)
		for turn := range 150 {
			like(t, d, f, m, count)
			if t.Failed() {
				t.Fatalf("of %+v, turn %d", c, turn)
			}
		}
	}
	for _, e := range []api.Errno{api.OK, api.ErrTuple, api.ErrFlows, api.ErrPorts, api.ErrState, api.ErrProto, api.ErrNoFlow} {
		if count[e] < 500 {
			t.Errorf("%d was met %d times", e, count[e])
		}
	}
}
