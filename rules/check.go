package rules

import (
	"weir/addr"
	"weir/api"
)

// The protocols that clauses ask for, and the greatest numbers of a rule's fields.
const (
	protoIcmp  = 1
	protoTcp   = 6
	protoUdp   = 17
	protoIcmp6 = 58

	maxByte = 255
	maxVid  = 4094
	maxPort = 65535
)

// bounded tells whether the numbers of a rule lie within their bounds.
func bounded(r api.Rule) bool {
	return within(r.Act, api.APermit, api.AReject) &&
		within(r.Class, 0, api.MaxClasses-1) &&
		within(r.Kind, 0, api.PIp6) &&
		within(r.Proto, 0, maxByte) &&
		within(r.In, 0, api.MaxPorts) &&
		within(r.Vid, 0, maxVid) &&
		within(r.Set, 0, maxByte) &&
		within(r.Clear, 0, maxByte) &&
		within(r.Type, 0, maxByte+1) &&
		r.Set&r.Clear == 0
}

// fitting tells whether what a rule asks for is had by what it lets on and by the packets that it is about.
func fitting(r api.Rule) bool {
	return (r.Class == 0 || r.Act == api.APermit) &&
		(r.Proto == 0 || r.Kind != api.PArp) &&
		(r.Set|r.Clear == 0 || hasFlags(r.Proto)) &&
		(r.Type == 0 || hasType(r.Proto))
}

func checkSide(r api.Rule, s api.Side) api.Errno {
	switch {
	case !netsMayStand(r.Kind, s):
		return api.ErrNet
	case !rangesMayBe(s.Ports):
		return api.ErrRulePorts
	case len(s.Ports) > 0 && !hasPorts(r.Proto):
		return api.ErrClause
	}
	return api.OK
}

func netsMayStand(kind int, s api.Side) bool {
	if len(s.Nets) > api.MaxNets || s.Not && len(s.Nets) == 0 {
		return false
	}
	for _, p := range s.Nets {
		if addr.ValidPrefix(p) != api.OK || !versionMayStand(kind, p.IP.V) {
			return false
		}
	}
	return true
}

func rangesMayBe(l []api.Range) bool {
	if len(l) > api.MaxNets {
		return false
	}
	for _, x := range l {
		if x.Lo < 0 || x.Hi > maxPort || x.Lo > x.Hi {
			return false
		}
	}
	return true
}

// versionMayStand tells whether a packet of a kind may have an address of a version.
func versionMayStand(kind, version int) bool {
	switch kind {
	case api.PArp, api.PIp4:
		return version == 4
	case api.PIp6:
		return version == 6
	}
	return true
}

func hasFlags(proto int) bool { return proto == protoTcp }

func hasPorts(proto int) bool { return proto == protoTcp || proto == protoUdp }

func hasType(proto int) bool { return proto == protoIcmp || proto == protoIcmp6 }

func within(n, low, high int) bool { return n >= low && n <= high }
