package flow_test

import (
	"slices"
	"testing"

	"weir/api"
)

// 17.5, 17.11: each state lasts just its time, if nothing of it is taken; what is refused renews nothing.
func TestTimes(t *testing.T) {
	for _, c := range []api.FlowConfig{little, wide, {Max: 1, Outside: outside, Lo: 5, Hi: 5, Syn: 1, Tcp: 1, Fin: 1, Udp: 1, Icmp: 1}} {
		for _, x := range []api.Tuple{tup(6, a, 5, r, 80), tup(6, six(1), 5, six(2), 80)} {
			for state := api.FOpening; state <= api.FClosing; state++ {
				f := bring(t, c, x, state)
				port := f.Dump()[0].Port
				for left := timeOf(c, state); left > 0; left-- {
					holds(t, f, api.Flow{Tuple: x, Port: port, State: state, Left: left})
					refusesOut(t, f, x, synF|ackF, api.ErrState)
					refusesOut(t, f, x, synF|finF, api.ErrState)
					back := tup(6, x.Dst, 80, x.Src, port)
					if x.Src.V == 4 {
						back.Dst = outside
					}
					refusesIn(t, f, back, synF, api.ErrState)
					refusesIn(t, f, back, synF|finF|ackF, api.ErrState)
					if left > 1 {
						ticks(t, f, 0)
					}
				}
				ticks(t, f, 1, 0, 0)
				holds(t, f)
			}
		}
	}
}

// 17.5, 17.11: what is taken, out or in, sets the time anew, and not only lengthens it.
func TestRenewed(t *testing.T) {
	f, x := table(t, wide), tup(17, a, 5, r, 53)
	for n := range 7 {
		goesOut(t, f, x, 0, from(x, 5))
		ticks(t, f, make([]int, n)...)
		holds(t, f, api.Flow{Tuple: x, Port: 5, State: api.FAlive, Left: 7 - n})
		comesIn(t, f, back(from(x, 5)), 0, back(x))
		holds(t, f, api.Flow{Tuple: x, Port: 5, State: api.FAlive, Left: 7})
		ticks(t, f, make([]int, n)...)
	}
	ticks(t, f, 1)
	f = bring(t, wide, tup(6, a, 5, r, 80), api.FLive)
	goesOut(t, f, tup(6, a, 5, r, 80), finF, tup(6, outside, 5, r, 80))
	holds(t, f, api.Flow{Tuple: tup(6, a, 5, r, 80), Port: 5, State: api.FOutFin, Left: 4})
}

// 17.5: a Tick tells how many have ended, of all kinds; those that have time go on.
func TestTickCounts(t *testing.T) {
	f := table(t, wide)
	for i := range 5 {
		for k, proto := range []int{17, 1, 6} {
			if i <= k*2 {
				x := tup(proto, a, 100+i, r, 0)
				goesOut(t, f, x, synF, from(x, 100+i))
			}
		}
		x := tup(17, six(byte(i)), 5, six(9), 5)
		goesOut(t, f, x, 0, x)
	}
	if f.Len() != 1+3+5+5 {
		t.Fatalf("Len() = %d", f.Len())
	}
	ticks(t, f, 0, 0, 3, 0, 5, 0, 6, 0, 0)
	holds(t, f)
}

// 17.5, 17.11: the longest time.
func TestLongestTime(t *testing.T) {
	c := little
	c.Udp = 1 << 20
	f, x := table(t, c), tup(17, a, 5, r, 53)
	goesOut(t, f, x, 0, from(x, 1000))
	for range 1<<20 - 1 {
		if f.Tick() != 0 {
			t.Fatal("it has ended")
		}
	}
	holds(t, f, api.Flow{Tuple: x, Port: 1000, State: api.FAlive, Left: 1})
	ticks(t, f, 1)
	holds(t, f)
}

// 17.6: by protocol, then Src, Sport, Dst, Dport, each part ahead of all behind it; in whatever order they began.
func TestOrder(t *testing.T) {
	v4 := []api.IP{{V: 4}, four(0, 0, 0, 1), four(0, 0, 1, 0), four(1, 0, 0, 2), four(2, 0, 0, 1), four(127, 255, 255, 255), four(128, 0, 0, 0)}
	v6 := []api.IP{{V: 6}, {V: 6, A: [16]byte{15: 1}}, {V: 6, A: [16]byte{15: 128}}, {V: 6, A: [16]byte{14: 1}}, {V: 6, A: [16]byte{1}}, {V: 6, A: [16]byte{0: 255, 15: 1}}}
	var l []api.Tuple
	for _, proto := range []int{1, 6, 17, 58} {
		for _, ips := range [][]api.IP{v4, v6} {
			for _, src := range ips {
				for _, sport := range []int{1, 255, 65535} {
					for _, dst := range ips[1:5] {
						for _, dport := range []int{0, 2, 256} {
							if proto%57 != 1 || dport == 0 && (proto == 1) == (src.V == 4) {
								l = append(l, tup(proto, src, sport, dst, dport))
							}
						}
					}
				}
			}
		}
	}
	backwards := slices.Clone(l)
	slices.Reverse(backwards)
	for range 3 { // the order of a map is another each time
		for _, began := range [][]api.Tuple{l, backwards} {
			f := table(t, wide)
			for _, x := range began {
				if _, e := f.Out(x, synF); e != api.OK {
					t.Fatalf("Out(%v): %d", x, e)
				}
			}
			var told []api.Tuple
			for _, x := range f.Dump() {
				told = append(told, x.Tuple)
			}
			if !slices.Equal(told, l) || f.Len() != len(l) {
				t.Errorf("%d flows are told in another order", len(told))
			}
		}
	}
}

// 17.6: to look changes nothing.
func TestLookingChangesNothing(t *testing.T) {
	f, x := table(t, little), tup(17, a, 5, r, 53)
	goesOut(t, f, x, 0, from(x, 1000))
	ticks(t, f, 0)
	for range 10 {
		holds(t, f, api.Flow{Tuple: x, Port: 1000, State: api.FAlive, Left: 3})
	}
	ticks(t, f, 0, 0, 1)
}
