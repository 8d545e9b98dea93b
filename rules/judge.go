package rules

import "weir/api"

// test is what one clause of a rule asks of a packet, and of the port by which it came in.
type test interface {
	holds(port int, p *api.Packet) bool
}

// ready is a rule as a set keeps it: in memory of its own, with the tests that a packet must pass to match.
type ready struct {
	rule  api.Rule
	tests []test
}

func readied(r api.Rule) ready {
	x := ready{rule: copied(r)}
	x.ask(r.In != 0, cameBy(r.In-1))
	x.ask(r.Vid != 0, taggedBy(r.Vid))
	x.ask(r.Kind != 0, ofKind(r.Kind))
	x.ask(r.Proto != 0, ofProto(r.Proto))
	x.ask(len(r.From.Nets) > 0, inNets(r.From, source))
	x.ask(len(r.From.Ports) > 0, inRanges(r.From, sourcePort))
	x.ask(len(r.To.Nets) > 0, inNets(r.To, target))
	x.ask(len(r.To.Ports) > 0, inRanges(r.To, targetPort))
	x.ask(r.Set|r.Clear != 0, withFlags{r.Set, r.Clear})
	x.ask(r.Type != 0, ofType(r.Type-1))
	x.ask(r.Pieces, piece{})
	return x
}

// ask adds a test, if the rule has its clause.
func (x *ready) ask(has bool, t test) {
	if has {
		x.tests = append(x.tests, t)
	}
}

func (x *ready) matches(port int, p *api.Packet) bool {
	for _, t := range x.tests {
		if !t.holds(port, p) {
			return false
		}
	}
	return true
}

// copied is a rule with lists of its own.
func copied(r api.Rule) api.Rule {
	r.From = copiedSide(r.From)
	r.To = copiedSide(r.To)
	return r
}

func copiedSide(s api.Side) api.Side {
	s.Nets = copyOf(s.Nets)
	s.Ports = copyOf(s.Ports)
	return s
}

func copyOf[T any](l []T) []T { return append([]T(nil), l...) }
