package flow_test

import (
	"slices"
	"testing"

	"weir/api"
	"weir/flow"
)

const (
	synF = api.TcpSyn
	ackF = api.TcpAck
	finF = api.TcpFin
	rstF = api.TcpRst
)

var (
	a       = four(10, 0, 0, 1)
	b       = four(10, 0, 0, 2)
	r       = four(198, 51, 100, 7)
	outside = four(192, 0, 2, 9)

	little = api.FlowConfig{Max: 2, Outside: outside, Lo: 1000, Hi: 1001, Syn: 2, Tcp: 9, Fin: 3, Udp: 4, Icmp: 1}
	wide   = api.FlowConfig{Max: 4096, Outside: outside, Lo: 1, Hi: 65535, Syn: 5, Tcp: 11, Fin: 4, Udp: 7, Icmp: 3}
)

func four(w, x, y, z byte) api.IP { return api.IP{V: 4, A: [16]byte{w, x, y, z}} }
func six(d byte) api.IP           { return api.IP{V: 6, A: [16]byte{0: 0x20, 1: 1, 15: d}} }

func tup(proto int, src api.IP, sport int, dst api.IP, dport int) api.Tuple {
	return api.Tuple{Proto: proto, Src: src, Sport: sport, Dst: dst, Dport: dport}
}

// back is the tuple of the answers, as a second reading of packet.Reverse.
func back(x api.Tuple) api.Tuple {
	return api.Tuple{Proto: x.Proto, Src: x.Dst, Dst: x.Src, Sport: x.Dport, Dport: x.Sport}
}

// from is a tuple as it goes out by the outside address and that port.
func from(x api.Tuple, port int) api.Tuple {
	x.Src, x.Sport = outside, port
	return x
}

func table(t *testing.T, c api.FlowConfig) *flow.Table {
	t.Helper()
	x, e := flow.New(c)
	if x == nil || e != api.OK {
		t.Fatalf("New(%+v) = %v, %d", c, x, e)
	}
	return x
}

func goesOut(t *testing.T, f *flow.Table, x api.Tuple, flags int, want api.Tuple) {
	t.Helper()
	if y, e := f.Out(x, flags); y != want || e != api.OK {
		t.Errorf("Out(%v, %d) = %v, %d; want %v", x, flags, y, e, want)
	}
}

func refusesOut(t *testing.T, f *flow.Table, x api.Tuple, flags int, want api.Errno) {
	t.Helper()
	if y, e := f.Out(x, flags); y != (api.Tuple{}) || e != want {
		t.Errorf("Out(%v, %d) = %v, %d; want %d", x, flags, y, e, want)
	}
}

func comesIn(t *testing.T, f *flow.Table, x api.Tuple, flags int, want api.Tuple) {
	t.Helper()
	if y, e := f.In(x, flags); y != want || e != api.OK {
		t.Errorf("In(%v, %d) = %v, %d; want %v", x, flags, y, e, want)
	}
}

func refusesIn(t *testing.T, f *flow.Table, x api.Tuple, flags int, want api.Errno) {
	t.Helper()
	if y, e := f.In(x, flags); y != (api.Tuple{}) || e != want {
		t.Errorf("In(%v, %d) = %v, %d; want %d", x, flags, y, e, want)
	}
}

// holds wants a table to tell these flows as all of its own, in this order.
func holds(t *testing.T, f *flow.Table, want ...api.Flow) {
	t.Helper()
	if l := f.Dump(); !slices.Equal(l, want) {
		t.Errorf("Dump() = %+v\nwant %+v", l, want)
	}
	if n := f.Len(); n != len(want) {
		t.Errorf("Len() = %d, want %d", n, len(want))
	}
}

// ticks wants one Tick for each of these numbers, that tells it.
func ticks(t *testing.T, f *flow.Table, want ...int) {
	t.Helper()
	for i, n := range want {
		if got := f.Tick(); got != n {
			t.Errorf("Tick %d tells %d, want %d", i+1, got, n)
		}
	}
}

// bring is a table with one flow of TCP, of the tuple x, in that state.
func bring(t *testing.T, c api.FlowConfig, x api.Tuple, state int) *flow.Table {
	t.Helper()
	f := table(t, c)
	if state == 0 {
		return f
	}
	y, e := f.Out(x, synF)
	if e != api.OK {
		t.Fatalf("Out(%v, SYN): %d", x, e)
	}
	out := func(flags int) { goesOut(t, f, x, flags, y) }
	in := func(flags int) { comesIn(t, f, back(y), flags, back(x)) }
	if state > api.FOpening {
		in(synF | ackF)
	}
	if state > api.FOpened {
		out(ackF)
	}
	switch state {
	case api.FOutFin:
		out(finF)
	case api.FInFin:
		in(finF)
	case api.FClosing:
		in(finF)
		out(finF)
	}
	if l := f.Dump(); len(l) != 1 || l[0].State != state {
		t.Fatalf("there is %+v, not one in the state %d", l, state)
	}
	return f
}
