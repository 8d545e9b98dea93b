package flow

import (
	"cmp"

	"weir/addr"
	"weir/api"
)

const (
	tcp     = 6
	udp     = 17
	echo4   = 1 // the protocols of echoes, each of its version
	echo6   = 58
	maxPort = 65535
)

// isTuple tells whether the values are a tuple, of whatever protocol.
func isTuple(x api.Tuple) bool {
	return addr.Valid(x.Src) && addr.Valid(x.Dst) && x.Src.V == x.Dst.V && within(x.Sport, 0, maxPort) && within(x.Dport, 0, maxPort)
}

func isEcho(x api.Tuple) bool {
	return x.Proto == echo4 && x.Src.V == 4 || x.Proto == echo6 && x.Src.V == 6
}

// check tells whether packets of that tuple may be tracked at all.
func check(x api.Tuple) api.Errno {
	switch {
	case !isTuple(x):
		return api.ErrTuple
	case x.Proto != tcp && x.Proto != udp && !isEcho(x):
		return api.ErrProto
	}
	return api.OK
}

// order tells which of two flows is told first.
func order(a, b api.Flow) int {
	x, y := a.Tuple, b.Tuple
	return cmp.Or(
		cmp.Compare(x.Proto, y.Proto),
		orderIP(x.Src, y.Src), cmp.Compare(x.Sport, y.Sport),
		orderIP(x.Dst, y.Dst), cmp.Compare(x.Dport, y.Dport),
	)
}

func orderIP(a, b api.IP) int {
	switch {
	case addr.Less(a, b):
		return -1
	case addr.Less(b, a):
		return 1
	}
	return 0
}
