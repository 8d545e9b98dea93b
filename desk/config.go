package desk

import (
	"slices"
	"strings"

	"weir/api"
)

// The kinds of lines, in the order in which they are written.
const (
	ofPort = iota
	ofRoute
	ofRule
	ofNeigh
	ofReasm
	ofNat
	ofClass
	allKinds
)

// kind is a kind of line of a configuration.
type kind struct {
	form
	once   bool // there is at most one such line
	needed bool // there is at least one
}

// kinds say how the lines of a configuration are read and written.
func kinds() [allKinds]kind {
	return [allKinds]kind{
		ofPort: {needed: true, form: form{
			word: "port",
			must: []slot{{"", aMac}, {"mtu", aNumber}, {"vid", aNumber}, {"rx", aNumber}, {"tx", aNumber}, {"pool", aNumber}, {"size", aNumber}},
			may:  []slot{{"net4", aNet}, {"net6", aNet}},
		}},
		ofRoute: {form: form{
			word: "route",
			must: []slot{{"", aPrefix}, {"port", aNumber}},
			may:  []slot{{"via", anAddress}},
		}},
		ofRule: {form: form{
			word: "rule",
			must: []slot{{"", aRule}},
		}},
		ofNeigh: {once: true, needed: true, form: form{
			word: "neigh",
			must: []slot{{"max", aNumber}, {"line", aNumber}, {"every", aNumber}, {"tries", aNumber}, {"fresh", aNumber}},
		}},
		ofReasm: {once: true, needed: true, form: form{
			word: "reasm",
			must: []slot{{"contexts", aNumber}, {"ticks", aNumber}},
		}},
		ofNat: {once: true, form: form{
			word: "nat",
			must: []slot{{"port", aNumber}, {"outside", anAddress}, {"ports", aNumber}, {"", aNumber}, {"max", aNumber}, {"syn", aNumber}, {"tcp", aNumber}, {"fin", aNumber}, {"udp", aNumber}, {"icmp", aNumber}},
		}},
		ofClass: {needed: true, form: form{
			word: "class",
			must: []slot{{"quantum", aNumber}, {"items", aNumber}, {"bytes", aNumber}, {"rate", aNumber}, {"burst", aNumber}},
		}},
	}
}

// sheet is what the lines of a configuration say: of each kind its lines, of each line its values.
type sheet [allKinds][][]value

// read adds what a line says, or tells its fault and where that is.
func (s *sheet) read(line string) (api.Errno, int) {
	r := readerOf(line)
	if r.ended() {
		return api.OK, 0
	}
	first := r.take()
	for i, k := range kinds() {
		if k.word != first.text {
			continue
		}
		if k.once && len(s[i]) > 0 {
			return api.ErrTwice, first.place
		}
		s[i] = append(s[i], r.values(k.form))
		return r.err, r.place
	}
	return api.ErrDeskLine, first.place
}

// lacks tells whether there is no line of a kind that must be there.
func (s *sheet) lacks() bool {
	for i, k := range kinds() {
		if k.needed && len(s[i]) == 0 {
			return true
		}
	}
	return false
}

// text is the lines as they are written.
func (s *sheet) text() string {
	var text strings.Builder
	for i, k := range kinds() {
		for _, l := range s[i] {
			text.WriteString(k.line(l))
			text.WriteByte('\n')
		}
	}
	return text.String()
}

// line is the line of a form that says these values.
func (f form) line(l []value) string {
	words := []string{f.word}
	for i, s := range slices.Concat(f.must, f.may) {
		if i >= len(f.must) && !l[i].said {
			continue
		}
		if s.key != "" {
			words = append(words, s.key)
		}
		words = append(words, l[i].text(s.kind))
	}
	return strings.Join(words, " ")
}
