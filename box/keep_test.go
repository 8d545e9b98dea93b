package box

import (
	"testing"

	"weir/api"
)

// holds wants the box to have kept what waits and is queued, and nothing else.
func holds(t *testing.T, x *Box) {
	t.Helper()
	if k := x.Kept(); len(x.waiting) != k.Waiting || len(x.queued) != k.Queued {
		t.Fatalf("kept are %d that wait and %d that are queued, of %+v", len(x.waiting), len(x.queued), k)
	}
}

// 19.15, 19.17: a piece that has gone on, been lost, refused or sent is not kept.
func TestNoPieceIsKept(t *testing.T) {
	mac := func(n byte) api.Mac { return api.Mac{2, n} }
	ip := func(net, n byte) api.IP { return api.IP{V: 4, A: [16]byte{10, 0, net, n}} }
	c := api.Config{Rules: []string{"permit any"}, Neigh: api.NeighConfig{Max: 4, Line: 2, Every: 1, Tries: 1, Fresh: 9}, Contexts: 1, Ticks: 1, Nat: -1, Classes: []api.Class{{Quantum: 64, Items: 2, Bytes: 5000}}}
	for i := range byte(2) {
		c.Ports = append(c.Ports, api.PortConfig{Mac: mac(i), MTU: 1280, Rx: 1, Tx: 1, Pool: 3, Size: 1600, Net4: api.Prefix{IP: ip(i, 1), Len: 24}})
	}
	x, e := New(c)
	if e != api.OK {
		t.Fatal(e)
	}
	gram := api.Packet{Kind: api.PIp4, Ip4: api.Ip4{TTL: 9, Proto: 99, Src: ip(0, 2), Dst: ip(1, 2), Data: make([]byte, 1300)}}
	answer := api.Packet{Kind: api.PArp, Arp: api.Arp{Op: 2, SMac: mac(9), SIP: ip(1, 2), TIP: ip(1, 1)}}
	hear := func(port int, p api.Packet) {
		t.Helper()
		b, e := x.ports[port].frame(x.ports[port].Mac, p)
		if e != api.OK {
			t.Fatal(e)
		}
		x.Refill(port, 1)
		if e := x.Arrive(port, b); e != api.OK {
			t.Fatal(e)
		}
		holds(t, x)
		x.Poll(1)
		holds(t, x)
	}
	for range 3 {
		hear(0, gram)
		hear(0, gram) // two pieces wait, two are refused
		x.Tick()      // those that waited are lost
		holds(t, x)
		x.Drain(1)
		hear(0, gram)
		hear(1, answer) // both go on: one into the TX ring, one into the queue
		hear(0, gram)
		for range 4 {
			x.Drain(1)
			x.Poll(0)
			holds(t, x)
		}
		for range 20 { // the neighbour goes stale, is probed, and forgotten
			x.Tick()
			holds(t, x)
		}
		hear(0, gram)
		for range 3 {
			x.Tick()
			x.Drain(1)
			holds(t, x)
		}
	}
	if k := x.Kept(); k.Waiting+k.Queued != 0 {
		t.Errorf("kept are %+v", k)
	}
	n := x.Counts()
	if n.Out < 12 || len(n.Drops) < 3 {
		t.Errorf("counts are %+v", n)
	}
}
