package rules

import (
	"strconv"
	"strings"

	"weir/addr"
	"weir/api"
)

// written is the canonical line of a rule that Check takes.
func written(r api.Rule) string {
	l := []string{acts[r.Act]}
	if r.Class != 0 {
		l = append(l, "class", strconv.Itoa(r.Class))
	}
	l = append(l, whatWords(r)...)
	if r.In != 0 {
		l = append(l, "on", "p"+strconv.Itoa(r.In-1))
	}
	if r.Vid != 0 {
		l = append(l, "vid", strconv.Itoa(r.Vid))
	}
	l = append(l, sideWords("from", r.From)...)
	l = append(l, sideWords("to", r.To)...)
	if r.Set|r.Clear != 0 {
		l = append(l, "flags", flagList(r.Set, r.Clear))
	}
	if r.Type != 0 {
		l = append(l, "type", strconv.Itoa(r.Type-1))
	}
	if r.Pieces {
		l = append(l, "pieces")
	}
	return strings.Join(l, " ")
}

func whatWords(r api.Rule) []string {
	if r.Kind == 0 && r.Proto == 0 {
		return []string{"any"}
	}
	var l []string
	if r.Kind != 0 {
		l = append(l, kinds[r.Kind])
	}
	if r.Proto != 0 {
		l = append(l, protoWords(r.Proto)...)
	}
	return l
}

func protoWords(proto int) []string {
	for _, p := range protos {
		if p.number == proto {
			return []string{p.word}
		}
	}
	return []string{"proto", strconv.Itoa(proto)}
}

func sideWords(name string, s api.Side) []string {
	if len(s.Nets) == 0 && len(s.Ports) == 0 {
		return nil
	}
	l := []string{name}
	if s.Not {
		l = append(l, "not")
	}
	l = append(l, netList(s.Nets))
	if len(s.Ports) > 0 {
		l = append(l, "port", rangeList(s.Ports))
	}
	return l
}

func netList(nets []api.Prefix) string {
	if len(nets) == 0 {
		return "any"
	}
	l := make([]string, len(nets))
	for i, p := range nets {
		l[i] = netText(p)
	}
	return strings.Join(l, ",")
}

func netText(p api.Prefix) string {
	if p.Len == bits(p.IP) {
		text, _ := addr.PrintIP(p.IP)
		return text
	}
	text, _ := addr.PrintPrefix(p)
	return text
}

func rangeList(ranges []api.Range) string {
	l := make([]string, len(ranges))
	for i, x := range ranges {
		l[i] = strconv.Itoa(x.Lo)
		if x.Hi != x.Lo {
			l[i] += "-" + strconv.Itoa(x.Hi)
		}
	}
	return strings.Join(l, ",")
}

func flagList(set, unset int) string {
	var l []string
	for i, word := range flags {
		switch bit := 1 << i; {
		case set&bit != 0:
			l = append(l, word)
		case unset&bit != 0:
			l = append(l, "!"+word)
		}
	}
	return strings.Join(l, ",")
}
