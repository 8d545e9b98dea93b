package flow_test

import (
	"math"
	"testing"

	"weir/api"
)

// oddTuples are values that are no tuple, whatever their protocol.
func oddTuples() []api.Tuple {
	good := tup(17, a, 5, r, 6)
	var l []api.Tuple
	for _, turn := range []func(*api.IP){
		func(ip *api.IP) { *ip = api.IP{} },
		func(ip *api.IP) { ip.V = 0 },
		func(ip *api.IP) { ip.V = 5 },
		func(ip *api.IP) { ip.V = -4 },
		func(ip *api.IP) { ip.V = 6 },
		func(ip *api.IP) { *ip = six(1) },
		func(ip *api.IP) { ip.A[4] = 1 },
		func(ip *api.IP) { ip.A[15] = 128 },
		func(ip *api.IP) { ip.V += 1 << 32 },
	} {
		x, y := good, good
		turn(&x.Src)
		turn(&y.Dst)
		l = append(l, x, y)
	}
	for _, port := range []int{math.MinInt, -65536, -1, 65536, 65536 + 5, 1 << 32, math.MaxInt} {
		x, y := good, good
		x.Sport, y.Dport = port, port
		l = append(l, x, y)
	}
	for _, ip := range []api.IP{{}, {V: 5, A: a.A}, {V: 4, A: [16]byte{4: 1}}} {
		l = append(l, tup(17, ip, 5, ip, 6))
	}
	return append(l, tup(17, six(1), 5, r, 6), tup(17, six(1), 65536, six(2), 6), tup(17, six(1), 5, six(2), -1), api.Tuple{})
}

// 17.2, 17.3: what is no tuple is refused as that, whatever its protocol and flags are, in a full table too.
func TestNoTuple(t *testing.T) {
	empty, full := table(t, little), table(t, little)
	goesOut(t, full, tup(17, a, 5, r, 6), 0, tup(17, outside, 1000, r, 6))
	goesOut(t, full, tup(6, a, 5, r, 6), synF, tup(6, outside, 1000, r, 6))
	l := full.Dump()
	for _, x := range oddTuples() {
		for _, x.Proto = range []int{17, 6, 1, 58, 47, 0, -1, 256} {
			for _, flags := range []int{0, synF, ackF} {
				refusesOut(t, empty, x, flags, api.ErrTuple)
				refusesOut(t, full, x, flags, api.ErrTuple)
				refusesIn(t, empty, x, flags, api.ErrTuple)
				refusesIn(t, full, x, flags, api.ErrTuple)
			}
		}
	}
	holds(t, empty)
	holds(t, full, l...)
}

// 17.2, 17.3: TCP, UDP, and of each version the echo of that version; nothing else.
func TestProtocols(t *testing.T) {
	protos := []int{math.MinInt, math.MaxInt, 1 << 32, 1<<32 + 6, 256 + 17, -6}
	for n := -2; n < 300; n++ {
		protos = append(protos, n)
	}
	for _, proto := range protos {
		for _, x := range []api.Tuple{tup(proto, a, 1000, r, 0), tup(proto, six(1), 1000, six(2), 0)} {
			f := table(t, little)
			if proto == 6 || proto == 17 || proto == 1 && x.Src.V == 4 || proto == 58 && x.Src.V == 6 {
				refusesIn(t, f, back(x), synF, api.ErrNoFlow)
				y := x
				if x.Src.V == 4 {
					y.Src = outside
				}
				goesOut(t, f, x, synF, y)
				continue
			}
			refusesOut(t, f, x, synF, api.ErrProto)
			refusesIn(t, f, x, synF, api.ErrProto)
			refusesIn(t, f, back(x), synF, api.ErrProto)
			holds(t, f)
		}
	}
}

// 17.2, 17.3: any two addresses of one version are a tuple's, whatever their class is; and so is any port.
func TestAnyAddress(t *testing.T) {
	for _, l := range [][]api.IP{
		{{V: 4}, four(127, 0, 0, 1), four(224, 0, 0, 1), four(255, 255, 255, 255), four(0, 0, 0, 1), outside, a},
		{{V: 6}, {V: 6, A: [16]byte{15: 1}}, {V: 6, A: [16]byte{0: 0xff}}, {V: 6, A: a.A}, six(9)},
	} {
		for _, src := range l {
			for _, dst := range l {
				for _, sport := range []int{0, 1, 65535} {
					f, x := table(t, little), tup(17, src, sport, dst, 65535-sport)
					y := x
					if src.V == 4 {
						y = from(x, 1000)
					}
					goesOut(t, f, x, 0, y)
					comesIn(t, f, back(y), 0, back(x))
				}
			}
		}
	}
}

// 17.2: without a flow: the state ahead of the room, and the table's room ahead of the ports'.
func TestOrderOfRefusals(t *testing.T) {
	c := little
	c.Hi = 1000
	f := table(t, c)
	goesOut(t, f, tup(6, a, 5, r, 6), synF, tup(6, outside, 1000, r, 6))
	for flags := range 64 {
		if flags&(synF|ackF|finF|rstF) == synF {
			refusesOut(t, f, tup(6, a, 6, r, 6), flags, api.ErrPorts)
		} else {
			refusesOut(t, f, tup(6, a, 6, r, 6), flags, api.ErrState)
		}
	}
	goesOut(t, f, tup(1, a, 5, r, 0), 0, tup(1, outside, 1000, r, 0))
	for flags := range 64 {
		if flags&(synF|ackF|finF|rstF) == synF {
			refusesOut(t, f, tup(6, a, 6, r, 6), flags, api.ErrFlows)
		} else {
			refusesOut(t, f, tup(6, a, 6, r, 6), flags, api.ErrState)
		}
	}
	refusesOut(t, f, tup(1, a, 0, r, 0), 0, api.ErrState)
	refusesOut(t, f, tup(1, a, 6, r, 1), 0, api.ErrState)
	refusesOut(t, f, tup(1, a, 6, r, 0), 0, api.ErrFlows)
	refusesOut(t, f, tup(17, a, 6, r, 0), 0, api.ErrFlows)
	refusesOut(t, f, tup(17, six(1), 6, six(2), 0), 0, api.ErrFlows)
	refusesOut(t, f, tup(6, six(1), 6, six(2), 0), ackF, api.ErrState)
	goesOut(t, f, tup(1, a, 5, r, 0), 0, tup(1, outside, 1000, r, 0))
	ticks(t, f, 1)
	refusesOut(t, f, tup(6, a, 6, r, 6), synF, api.ErrPorts)
	goesOut(t, f, tup(6, six(1), 6, six(2), 6), synF, tup(6, six(1), 6, six(2), 6))
	holds(t, f, api.Flow{Tuple: tup(6, a, 5, r, 6), Port: 1000, State: api.FOpening, Left: 1}, api.Flow{Tuple: tup(6, six(1), 6, six(2), 6), Port: 6, State: api.FOpening, Left: 2})
}

// 17.2: only echoes that ask, with another id than 0, begin a flow; of both versions.
func TestEchoes(t *testing.T) {
	c := wide
	c.Lo = 100
	f := table(t, c)
	for _, x := range []api.Tuple{tup(1, a, 0, r, 0), tup(58, six(1), 0, six(2), 0)} {
		for _, ports := range [][2]int{{0, 0}, {0, 7}, {0, 65535}, {7, 7}, {7, 1}, {65535, 65535}} {
			x.Sport, x.Dport = ports[0], ports[1]
			refusesOut(t, f, x, 0, api.ErrState)
			refusesOut(t, f, x, synF, api.ErrState)
			refusesIn(t, f, back(x), 0, api.ErrNoFlow)
		}
	}
	holds(t, f)
	four, sixth := tup(1, a, 7, r, 0), tup(58, six(1), 7, six(2), 0)
	goesOut(t, f, four, rstF, from(four, 100))
	goesOut(t, f, sixth, finF, sixth)
	refusesOut(t, f, tup(1, a, 0, r, 7), 0, api.ErrState)
	refusesIn(t, f, tup(1, r, 7, outside, 0), 0, api.ErrNoFlow)
	refusesIn(t, f, tup(1, r, 100, outside, 0), 0, api.ErrNoFlow)
	refusesIn(t, f, tup(58, six(2), 7, six(1), 0), 0, api.ErrNoFlow)
	comesIn(t, f, tup(1, r, 0, outside, 100), rstF, tup(1, r, 0, a, 7))
	comesIn(t, f, tup(58, six(2), 0, six(1), 7), 0, tup(58, six(2), 0, six(1), 7))
	holds(t, f, api.Flow{Tuple: four, Port: 100, State: api.FAlive, Left: 3}, api.Flow{Tuple: sixth, Port: 7, State: api.FAlive, Left: 3})
}

// 17.2: its own port, if it lies from Lo to Hi and is free; else the least that is free.
func TestOutsidePort(t *testing.T) {
	c := wide
	c.Lo, c.Hi, c.Udp = 1000, 1004, 100
	f := table(t, c)
	n := 0
	begin := func(sport, want int) {
		t.Helper()
		n++
		x := tup(17, a, sport, r, n)
		goesOut(t, f, x, 0, from(x, want))
	}
	begin(1002, 1002) // inside
	begin(1002, 1000) // taken: the least
	begin(1004, 1004) // Hi
	begin(999, 1001)  // below Lo
	begin(1005, 1003) // above Hi
	for _, sport := range []int{0, 999, 1000, 1002, 1004, 1005, 65535} {
		refusesOut(t, f, tup(17, a, sport, r, 99), 0, api.ErrPorts)
	}
	n = 0
	f = table(t, c)
	begin(1000, 1000) // Lo
	begin(0, 1001)
	begin(65535, 1002)
	begin(1000, 1003)
	begin(1004, 1004)
}

// 17.2: what ends gives its port back; the flows that are there keep theirs.
func TestPortsComeBack(t *testing.T) {
	c := wide
	c.Lo, c.Hi = 1000, 1002
	f := table(t, c)
	for i := range 3 {
		x := tup(6, a, 5+i, r, 80)
		goesOut(t, f, x, synF, from(x, 1000+i))
	}
	refusesOut(t, f, tup(6, a, 8, r, 80), synF, api.ErrPorts)
	goesOut(t, f, tup(6, a, 6, r, 80), rstF, tup(6, outside, 1001, r, 80))
	ticks(t, f, 0, 0, 0, 0)
	goesOut(t, f, tup(6, a, 9, r, 80), synF, tup(6, outside, 1001, r, 80))
	goesOut(t, f, tup(6, a, 7, r, 80), synF, tup(6, outside, 1002, r, 80))
	refusesOut(t, f, tup(6, a, 10, r, 80), synF, api.ErrPorts)
	ticks(t, f, 1)
	refusesIn(t, f, tup(6, r, 80, outside, 1000), synF|ackF, api.ErrNoFlow)
	goesOut(t, f, tup(6, a, 11, r, 80), synF, tup(6, outside, 1000, r, 80))
	comesIn(t, f, tup(6, r, 80, outside, 1000), rstF, tup(6, r, 80, a, 11))
	goesOut(t, f, tup(6, a, 12, r, 80), synF, tup(6, outside, 1000, r, 80))
	comesIn(t, f, tup(6, r, 80, outside, 1001), synF|ackF, tup(6, r, 80, a, 9))
}

// 17.2, 17.8: each protocol has all ports; flows of version 6 have none of them, and give none back.
func TestPortsOfEach(t *testing.T) {
	c := wide
	c.Lo, c.Hi = 1000, 1000
	f := table(t, c)
	for _, x := range []api.Tuple{tup(6, a, 1000, r, 0), tup(17, a, 1000, r, 0), tup(1, a, 1000, r, 0)} {
		goesOut(t, f, x, synF, from(x, 1000))
		x.Src = b
		refusesOut(t, f, x, synF, api.ErrPorts)
	}
	for _, proto := range []int{6, 17, 58} {
		for d := range byte(3) {
			x := tup(proto, six(d), 1000, six(9), 0)
			goesOut(t, f, x, synF, x)
		}
	}
	goesOut(t, f, tup(6, six(1), 1000, six(9), 0), rstF, tup(6, six(1), 1000, six(9), 0))
	if f.Len() != 11 {
		t.Errorf("Len() = %d", f.Len())
	}
	refusesOut(t, f, tup(6, b, 1000, r, 0), synF, api.ErrPorts)
	comesIn(t, f, tup(6, r, 0, outside, 1000), synF|ackF, tup(6, r, 0, a, 1000))
	ticks(t, f, 0, 0, 4, 0)
	goesOut(t, f, tup(17, a, 1000, r, 0), 0, tup(17, outside, 1000, r, 0))
	ticks(t, f, 3, 0, 3)
	refusesOut(t, f, tup(17, b, 1000, r, 0), 0, api.ErrPorts)
	comesIn(t, f, tup(17, r, 0, outside, 1000), 0, tup(17, r, 0, a, 1000))
}

// 17.2, 17.8: a port is one flow's, though others go elsewhere: not only the whole tuple is unlike.
func TestPortsByTarget(t *testing.T) {
	f := table(t, wide)
	for i := range 20 {
		x := tup(17, a, 5, four(198, 51, 100, byte(i)), 53)
		port := i // 1 to 4 are taken ahead of 5, behind its own
		switch {
		case i == 0:
			port = 5
		case i >= 5:
			port = i + 1
		}
		goesOut(t, f, x, 0, from(x, port))
	}
}

// 17.2: each part of a tuple tells flows apart.
func TestFlowsByTuple(t *testing.T) {
	for _, x := range []api.Tuple{tup(17, a, 5, r, 6), tup(17, six(1), 5, six(2), 6)} {
		f := table(t, wide)
		l := []api.Tuple{x, x, x, x, x, x}
		l[1].Src.A[3] ^= 8
		l[2].Dst.A[0] ^= 8
		l[3].Sport++
		l[4].Dport++
		l[5].Proto = 6
		for i, y := range l {
			if _, e := f.Out(y, synF); e != api.OK || f.Len() != i+1 {
				t.Errorf("Out(%v): %d, there are %d", y, e, f.Len())
			}
		}
		for _, y := range l {
			if _, e := f.Out(y, synF); e != api.OK || f.Len() != len(l) {
				t.Errorf("Out(%v) once more: %d, there are %d", y, e, f.Len())
			}
		}
	}
}

// 17.2, 17.11: a full table takes what belongs to its flows, and no other.
func TestFullTable(t *testing.T) {
	f := table(t, wide)
	for i := range 4096 {
		x := tup(17, a, 65535, four(198, 51, byte(i>>8), byte(i)), 53)
		port := i
		if i == 0 {
			port = 65535
		}
		goesOut(t, f, x, 0, from(x, port))
	}
	refusesOut(t, f, tup(17, a, 65534, r, 53), 0, api.ErrFlows)
	refusesOut(t, f, tup(58, six(1), 65534, six(2), 0), 0, api.ErrFlows)
	x := tup(17, a, 65535, four(198, 51, 15, 255), 53)
	goesOut(t, f, x, 0, from(x, 4095))
	comesIn(t, f, back(from(x, 4095)), 0, back(x))
	if f.Len() != 4096 || len(f.Dump()) != 4096 {
		t.Errorf("there are %d, told %d", f.Len(), len(f.Dump()))
	}
	ticks(t, f, 0, 0, 0, 0, 0, 0, 4096, 0)
	goesOut(t, f, x, 0, from(x, 65535))
}

// 17.3: a packet comes in for a flow only if all of its tuple is the reverse of what goes out.
func TestInByTuple(t *testing.T) {
	for _, x := range []api.Tuple{tup(17, a, 5, r, 6), tup(17, six(1), 5, six(2), 6), tup(6, a, 5, r, 6), tup(6, six(1), 5, six(2), 6)} {
		f := table(t, wide)
		refusesIn(t, f, back(x), synF|ackF, api.ErrNoFlow)
		y, _ := f.Out(x, synF)
		odd := []api.Tuple{back(y), back(y), back(y), back(y), back(y), y}
		odd[0].Src.A[3]++
		odd[1].Dst.A[3]++
		odd[2].Sport++
		odd[3].Dport++
		odd[4].Proto = 6 + 17 - x.Proto
		if x.Src.V == 4 {
			odd = append(odd, back(x), tup(x.Proto, r, 6, a, y.Sport), tup(x.Proto, r, 6, outside, 4), tup(x.Proto, six(1), 6, six(2), y.Sport))
		}
		for _, z := range odd {
			refusesIn(t, f, z, synF|ackF, api.ErrNoFlow)
		}
		comesIn(t, f, back(y), synF|ackF, back(x))
		ticks(t, f, make([]int, f.Dump()[0].Left-1)...)
		ticks(t, f, 1)
		refusesIn(t, f, back(y), synF|ackF, api.ErrNoFlow)
	}
}
