package flow

import "weir/api"

// What a packet is to the state of its flow.
const (
	plain = iota
	syn
	both // SYN and ACK
	fin
	reset
	bad
	other // of UDP, or an echo: its flags are not looked at
	segments
)

// States beside those that are told.
const (
	none = 0  // there is no flow; in a table of turns: the segment may not go there
	over = -1 // the flow ends
)

// outTurns has, by the state of a flow and by what goes out, the state behind it.
var outTurns = [8][segments]int{
	none:         {syn: api.FOpening, other: api.FAlive},
	api.FOpening: {syn: api.FOpening, reset: over},
	api.FOpened:  {syn: api.FOpened, plain: api.FLive, fin: api.FOutFin, reset: over},
	api.FLive:    {plain: api.FLive, fin: api.FOutFin, reset: over},
	api.FOutFin:  {plain: api.FOutFin, fin: api.FOutFin, reset: over},
	api.FInFin:   {plain: api.FInFin, fin: api.FClosing, reset: over},
	api.FClosing: {syn: api.FOpening, plain: api.FClosing, fin: api.FClosing, reset: over},
	api.FAlive:   {other: api.FAlive},
}

// inTurns has the same of what comes in; without a flow nothing does.
var inTurns = [8][segments]int{
	api.FOpening: {both: api.FOpened, reset: over},
	api.FOpened:  {both: api.FOpened, plain: api.FOpened, fin: api.FInFin, reset: over},
	api.FLive:    {plain: api.FLive, fin: api.FInFin, reset: over},
	api.FOutFin:  {plain: api.FOutFin, fin: api.FClosing, reset: over},
	api.FInFin:   {plain: api.FInFin, fin: api.FInFin, reset: over},
	api.FClosing: {plain: api.FClosing, fin: api.FClosing, reset: over},
	api.FAlive:   {other: api.FAlive},
}

// segmentOf tells what a packet of that protocol is; the first that fits counts.
func segmentOf(proto, flags int) int {
	has := func(bits int) bool { return flags&bits == bits }
	switch {
	case proto != tcp:
		return other
	case has(api.TcpRst):
		return reset
	case has(api.TcpSyn | api.TcpFin):
		return bad
	case has(api.TcpSyn | api.TcpAck):
		return both
	case has(api.TcpSyn):
		return syn
	case has(api.TcpFin):
		return fin
	}
	return plain
}

// ticksOf tells how long a flow lasts in a state if nothing of it is taken.
func ticksOf(c api.FlowConfig, proto, state int) int {
	switch state {
	case api.FOpening, api.FOpened:
		return c.Syn
	case api.FLive:
		return c.Tcp
	case api.FAlive:
		if proto == udp {
			return c.Udp
		}
		return c.Icmp
	}
	return c.Fin
}
