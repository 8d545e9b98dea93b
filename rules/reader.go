package rules

import (
	"slices"
	"strings"

	"weir/api"
)

// reader goes through the words of a line and lays what they say into a rule. The first fault stands: nothing is left to read behind it, so that no step need ask whether the one ahead of it went well.
type reader struct {
	line  string
	at    int      // behind the words that were taken
	seen  []string // the first words of the clauses so far
	rule  api.Rule
	err   api.Errno
	place int
}

func (r *reader) fail(e api.Errno, place int) {
	if r.err == api.OK {
		r.err, r.place = e, place
		r.at = len(r.line)
	}
}

// look is the next word and its place; nothing and the line's length, if there is none.
func (r *reader) look() (string, int) {
	from := r.at
	for from < len(r.line) && blank(r.line[from]) {
		from++
	}
	to := from
	for to < len(r.line) && !blank(r.line[to]) && r.line[to] != ',' {
		to++
	}
	if to == from && from < len(r.line) {
		to++ // a comma
	}
	return r.line[from:to], from
}

// take is the next word, gone over; the line may not end there.
func (r *reader) take() (string, int) {
	text, place := r.look()
	r.at = place + len(text)
	if text == "" {
		r.fail(api.ErrRuleEnd, place)
	}
	return text, place
}

// value is the next word where a number, a port, a net, a range or a flag must stand.
func (r *reader) value() (string, int) {
	text, place := r.take()
	if text == "," {
		r.fail(api.ErrWord, place)
	}
	return text, place
}

// skip goes over the next word, if it is this one.
func (r *reader) skip(word string) bool {
	text, place := r.look()
	if text != word {
		return false
	}
	r.at = place + len(text)
	return true
}

func (r *reader) read() {
	r.act()
	r.what()
	for r.more() {
		r.clause()
	}
}

func (r *reader) more() bool {
	text, _ := r.look()
	return text != ""
}

func (r *reader) act() {
	text, place := r.take()
	for number, word := range acts {
		if word == text {
			r.rule.Act = number
		}
	}
	if r.rule.Act == 0 {
		r.fail(api.ErrWord, place)
	}
	if r.rule.Act == api.APermit && r.skip("class") {
		r.rule.Class = r.number(0, api.MaxClasses-1)
	}
}

func (r *reader) what() {
	if r.skip("any") || r.proto() {
		return
	}
	text, place := r.take()
	for number, word := range kinds {
		if word == text {
			r.rule.Kind = number
		}
	}
	if r.rule.Kind == 0 {
		r.fail(api.ErrWord, place)
	}
	r.proto()
}

// proto goes over a protocol, if one stands there.
func (r *reader) proto() bool {
	_, place := r.look()
	for _, p := range protos {
		if !r.skip(p.word) {
			continue
		}
		if r.rule.Kind == api.PArp {
			r.fail(api.ErrClause, place)
		}
		r.rule.Proto = p.number
		if p.number == 0 {
			r.rule.Proto = r.number(1, maxByte)
		}
		return true
	}
	return false
}

func (r *reader) clause() {
	text, place := r.take()
	if slices.Contains(r.seen, text) || !r.has(text) {
		r.fail(api.ErrClause, place)
		return
	}
	r.seen = append(r.seen, text)
	switch text {
	case "on":
		r.rule.In = r.port() + 1
	case "vid":
		r.rule.Vid = r.number(1, maxVid)
	case "from":
		r.rule.From = r.side()
	case "to":
		r.rule.To = r.side()
	case "flags":
		r.each(r.flag)
	case "type":
		r.rule.Type = r.number(0, maxByte) + 1
	case "pieces":
		r.rule.Pieces = true
	default:
		r.fail(api.ErrWord, place)
	}
}

// has tells whether the rule's protocol has what a clause asks for.
func (r *reader) has(clause string) bool {
	switch clause {
	case "flags":
		return hasFlags(r.rule.Proto)
	case "type":
		return hasType(r.rule.Proto)
	}
	return true
}

// each reads one thing and those that follow it behind commas.
func (r *reader) each(one func()) {
	one()
	for r.skip(",") {
		one()
	}
}

func (r *reader) side() api.Side {
	var s api.Side
	if !r.skip("any") {
		s.Not = r.skip("not")
		r.each(func() { s.Nets = append(s.Nets, r.net(len(s.Nets))) })
	}
	_, place := r.look()
	if !r.skip("port") {
		return s
	}
	if !hasPorts(r.rule.Proto) {
		r.fail(api.ErrClause, place)
	}
	r.each(func() { s.Ports = append(s.Ports, r.ports(len(s.Ports))) })
	return s
}

func (r *reader) number(low, high int) int {
	text, place := r.value()
	n, ok := numberOf(text, low, high)
	if !ok {
		r.fail(api.ErrNumber, place)
	}
	return n
}

func (r *reader) port() int {
	text, place := r.value()
	digits, ok := strings.CutPrefix(text, "p")
	n, right := numberOf(digits, 0, api.MaxPorts-1)
	if !ok || !right {
		r.fail(api.ErrNumber, place)
	}
	return n
}

// net is the next net, ahead of which so many stand.
func (r *reader) net(ahead int) api.Prefix {
	text, place := r.value()
	p, ok := netOf(text)
	if !ok || !versionMayStand(r.rule.Kind, p.IP.V) || ahead == api.MaxNets {
		r.fail(api.ErrNet, place)
	}
	return p
}

// ports is the next range, ahead of which so many stand.
func (r *reader) ports(ahead int) api.Range {
	text, place := r.value()
	x, ok := rangeOf(text)
	if !ok || ahead == api.MaxNets {
		r.fail(api.ErrRulePorts, place)
	}
	return x
}

func (r *reader) flag() {
	text, place := r.value()
	name, not := strings.CutPrefix(text, "!")
	bit := bitOf(name)
	switch {
	case bit == 0:
		r.fail(api.ErrWord, place)
	case (r.rule.Set|r.rule.Clear)&bit != 0:
		r.fail(api.ErrClause, place)
	case not:
		r.rule.Clear |= bit
	default:
		r.rule.Set |= bit
	}
}
