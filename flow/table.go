package flow

import (
	"weir/api"
	"weir/packet"
)

// place is an outside port of the outside address. Each protocol has all of them.
type place struct{ proto, port int }

// begin puts a flow in, with an outside port. An echo must ask, by an id that tells asks from answers.
func (t *Table) begin(f *api.Flow) api.Errno {
	x := f.Tuple
	if isEcho(x) && (x.Dport != 0 || x.Sport == 0) {
		return api.ErrState
	}
	if len(t.flows) == t.config.Max {
		return api.ErrFlows
	}
	port, ok := t.freePort(x)
	if !ok {
		return api.ErrPorts
	}
	f.Port = port
	t.flows[x] = f
	if x.Src.V == 4 {
		t.ports[place{x.Proto, port}] = f
	}
	return api.OK
}

// turn brings a flow into the state behind a packet, and renews its time.
func (t *Table) turn(f *api.Flow, state int) {
	if state == over {
		t.end(f)
		return
	}
	f.State, f.Left = state, ticksOf(t.config, f.Tuple.Proto, state)
}

// end takes a flow out. One of version 6 has no place: its port may be that of another one of version 4.
func (t *Table) end(f *api.Flow) {
	delete(t.flows, f.Tuple)
	if f.Tuple.Src.V == 4 {
		delete(t.ports, place{f.Tuple.Proto, f.Port})
	}
}

// freePort is the outside port of a flow that begins: its own, if it may have it, else the least that is free.
func (t *Table) freePort(x api.Tuple) (int, bool) {
	if x.Src.V == 6 || within(x.Sport, t.config.Lo, t.config.Hi) && t.free(x.Proto, x.Sport) {
		return x.Sport, true
	}
	for port := t.config.Lo; port <= t.config.Hi; port++ {
		if t.free(x.Proto, port) {
			return port, true
		}
	}
	return 0, false
}

func (t *Table) free(proto, port int) bool { return t.ports[place{proto, port}] == nil }

// outward is the tuple with which the packets of a flow go out.
func (t *Table) outward(f *api.Flow) api.Tuple {
	x := f.Tuple
	if x.Src.V == 4 {
		x.Src, x.Sport = t.config.Outside, f.Port
	}
	return x
}

// awaiting is the flow for which a packet comes in, or nil.
func (t *Table) awaiting(x api.Tuple) *api.Flow {
	y := packet.Reverse(x)
	if y.Src.V == 6 {
		return t.flows[y]
	}
	f := t.ports[place{y.Proto, y.Sport}]
	if f == nil || t.outward(f) != y {
		return nil
	}
	return f
}
