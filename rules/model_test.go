package rules_test

import (
	"math/rand"
	"regexp"
	"slices"
	"strconv"
	"strings"
	"testing"

	"weir/addr"
	"weir/api"
	"weir/rules"
)

// model is a second reading of the grammar: a line is gone through word by word, in a state that says what may stand next.
type model struct {
	state string
	rule  api.Rule
	side  *api.Side
	seen  map[string]int
}

var wordForm = regexp.MustCompile(`,|[!-+\--~]+`)
var strayForm = regexp.MustCompile(`^[\t !-~]*`)
var digits = regexp.MustCompile(`^(0|[1-9][0-9]{0,8})$`)

// mayEnd: the states in which a rule is whole.
var mayEnd = " kind clause any net range flag "

func modelParse(line string) (api.Rule, api.Errno, int) {
	if len(line) > 1024 {
		return api.Rule{}, api.ErrLong, 1024
	}
	if n := len(strayForm.FindString(line)); n < len(line) {
		return api.Rule{}, api.ErrWord, n
	}
	m := &model{state: "act", seen: map[string]int{}}
	for _, at := range wordForm.FindAllStringIndex(line, -1) {
		if e := m.word(line[at[0]:at[1]]); e != api.OK {
			return api.Rule{}, e, at[0]
		}
	}
	if !strings.Contains(mayEnd, " "+m.state+" ") {
		return api.Rule{}, api.ErrRuleEnd, len(line)
	}
	return m.rule, api.OK, 0
}

var modelProtos = map[string]int{"tcp": 6, "udp": 17, "icmp": 1, "icmp6": 58, "proto": 0}

// word takes one word and goes to the next state.
func (m *model) word(w string) api.Errno {
	r := &m.rule
	switch m.state {
	case "act":
		r.Act = map[string]int{"permit": 1, "deny": 2, "reject": 3}[w]
		m.state = "what"
		if r.Act == 1 {
			m.state = "permitted"
		}
		if r.Act == 0 {
			return api.ErrWord
		}
		return api.OK
	case "permitted":
		if w == "class" {
			m.state = "class"
			return api.OK
		}
		m.state = "what"
		return m.word(w)
	case "class":
		return m.value(w, &r.Class, 0, 7, 0, "what")
	case "what":
		r.Kind = map[string]int{"arp": 1, "ip4": 2, "ip6": 3}[w]
		switch n, ok := modelProtos[w]; {
		case w == "any":
			m.state = "clause"
		case r.Kind != 0:
			m.state = "kind"
		case ok:
			m.proto(n)
		default:
			return api.ErrWord
		}
		return api.OK
	case "kind":
		n, ok := modelProtos[w]
		switch {
		case !ok:
			return m.clause(w)
		case r.Kind == 1:
			return api.ErrClause
		}
		m.proto(n)
		return api.OK
	case "proto":
		return m.value(w, &r.Proto, 1, 255, 0, "clause")
	case "on":
		if w == "," {
			return api.ErrWord
		}
		if w[0] != 'p' {
			return api.ErrNumber
		}
		return m.value(w[1:], &r.In, 0, 7, 1, "clause")
	case "vid":
		return m.value(w, &r.Vid, 1, 4094, 0, "clause")
	case "type":
		return m.value(w, &r.Type, 0, 255, 1, "clause")
	}
	return m.listed(w)
}

// listed takes the words of sides and flags.
func (m *model) listed(w string) api.Errno {
	if w == "," {
		next := map[string]string{"net": "a net", "range": "a range", "flag": "a flag"}[m.state]
		m.state = next
		if next == "" {
			return api.ErrWord
		}
		return api.OK
	}
	switch m.state {
	case "side":
		switch w {
		case "any":
			m.state = "any"
			return api.OK
		case "not":
			m.side.Not = true
			m.state = "a net"
			return api.OK
		}
		m.state = "a net"
		return m.listed(w)
	case "a net":
		m.state = "net"
		return m.net(w)
	case "any", "net":
		if w != "port" {
			return m.clause(w)
		}
		m.state = "a range"
		if m.rule.Proto != 6 && m.rule.Proto != 17 {
			return api.ErrClause
		}
		return api.OK
	case "a range":
		m.state = "range"
		return m.ports(w)
	case "a flag":
		m.state = "flag"
		return m.flag(w)
	}
	return m.clause(w)
}

func (m *model) proto(n int) {
	m.rule.Proto, m.state = n, "clause"
	if n == 0 {
		m.state = "proto"
	}
}

func (m *model) value(w string, to *int, low, high, more int, next string) api.Errno {
	if w == "," {
		return api.ErrWord
	}
	n, _ := strconv.Atoi(w)
	if !digits.MatchString(w) || n < low || n > high {
		return api.ErrNumber
	}
	*to, m.state = n+more, next
	return api.OK
}

func (m *model) clause(w string) api.Errno {
	next, ok := map[string]string{"on": "on", "vid": "vid", "from": "side", "to": "side", "flags": "a flag", "type": "type", "pieces": "clause"}[w]
	proto := m.rule.Proto
	m.seen[w]++
	switch {
	case !ok:
		return api.ErrWord
	case m.seen[w] > 1, w == "flags" && proto != 6, w == "type" && proto != 1 && proto != 58:
		return api.ErrClause
	case w == "from":
		m.side = &m.rule.From
	case w == "to":
		m.side = &m.rule.To
	case w == "pieces":
		m.rule.Pieces = true
	}
	m.state = next
	return api.OK
}

func (m *model) net(w string) api.Errno {
	text := w
	if !strings.Contains(w, "/") {
		text += "/32"
		if strings.Contains(w, ":") {
			text = w + "/128"
		}
	}
	p, e, _ := addr.ParsePrefix(text)
	version := []int{p.IP.V, 4, 4, 6}[m.rule.Kind]
	if e != api.OK || p.IP.V != version || len(m.side.Nets) > 15 {
		return api.ErrNet
	}
	m.side.Nets = append(m.side.Nets, p)
	return api.OK
}

func (m *model) ports(w string) api.Errno {
	ends := strings.Split(w, "-")
	var n []int
	for _, end := range ends {
		v, _ := strconv.Atoi(end)
		if !digits.MatchString(end) || v > 65535 {
			return api.ErrRulePorts
		}
		n = append(n, v)
	}
	last := n[len(n)-1]
	if len(n) > 2 || n[0] > last || len(m.side.Ports) > 15 {
		return api.ErrRulePorts
	}
	m.side.Ports = append(m.side.Ports, api.Range{Lo: n[0], Hi: last})
	return api.OK
}

func (m *model) flag(w string) api.Errno {
	to := &m.rule.Set
	if w[0] == '!' {
		to, w = &m.rule.Clear, w[1:]
	}
	i := slices.Index([]string{"fin", "syn", "rst", "psh", "ack", "urg", "ece", "cwr"}, w)
	if i < 0 {
		return api.ErrWord
	}
	if (m.rule.Set|m.rule.Clear)>>i&1 == 1 {
		return api.ErrClause
	}
	*to |= 1 << i
	return api.OK
}

// modelMatches is a second reading of what matches.
func modelMatches(r api.Rule, port int, p api.Packet) bool {
	var src, dst api.IP
	proto, piece := -1, false
	switch p.Kind {
	case 1:
		src, dst = p.Arp.SIP, p.Arp.TIP
	case 2:
		src, dst, proto, piece = p.Ip4.Src, p.Ip4.Dst, p.Ip4.Proto, p.Ip4.MF || p.Ip4.Off > 0
	case 3:
		src, dst, proto, piece = p.Ip6.Src, p.Ip6.Dst, p.Ip6.Next, p.Ip6.Frag.Has
	}
	sport, dport := -1, -1
	switch p.L4 {
	case 2:
		sport, dport = p.Udp.Sport, p.Udp.Dport
	case 3:
		sport, dport = p.Tcp.Sport, p.Tcp.Dport
	}
	vid := 0
	if len(p.Tags) > 0 {
		vid = p.Tags[0].VID
	}
	side := func(s api.Side, ip api.IP, port int) bool {
		in := slices.ContainsFunc(s.Nets, func(n api.Prefix) bool { return addr.Contains(n, ip) })
		some := slices.ContainsFunc(s.Ports, func(x api.Range) bool { return x.Lo <= port && port <= x.Hi })
		return (len(s.Nets) == 0 || p.Kind >= 1 && p.Kind <= 3 && in == !s.Not) && (len(s.Ports) == 0 || some)
	}
	flags := r.Set+r.Clear == 0 || p.L4 == 3 && p.Tcp.Flags&(r.Set+r.Clear) == r.Set
	kind := r.Type == 0 || p.L4 == 1 && p.Icmp.Type+1 == r.Type
	return (r.In == 0 || r.In-1 == port) && (r.Vid == 0 || r.Vid == vid) && (r.Kind == 0 || r.Kind == p.Kind) &&
		(r.Proto == 0 || r.Proto == proto) && side(r.From, src, sport) && side(r.To, dst, dport) && flags && kind && (!r.Pieces || piece)
}

func modelJudge(l []api.Rule, port int, p api.Packet) api.Verdict {
	i := slices.IndexFunc(l, func(r api.Rule) bool { return modelMatches(r, port, p) })
	if i < 0 {
		return denied
	}
	return api.Verdict{Act: l[i].Act, Class: l[i].Class, Rule: i}
}

// vocabulary: words that stand in rules, and some that nearly do.
var vocabulary = strings.Fields(`permit deny reject class any tcp udp icmp icmp6 proto arp ip4 ip6 on vid from to flags type pieces not port , , , ,
	0 1 6 7 8 17 58 80 255 256 4094 4095 65535 65536 01 -1 p0 p7 p8 p01 p 10.0.0.1 10.0.0.0/8 10.0.0.1/8 ::1 ::/0 ::g 80-90 90-80 80- 1-2-3
	syn !syn ack !ack ! !! fin,!fin syn,ack x # ports`)

// blanked joins words by drawn blanks; beside a comma there may be none.
func (d dice) blanked(words []string) string {
	var b strings.Builder
	for i, w := range words {
		if i > 0 && w != "," && words[i-1] != "," || d.Intn(3) == 0 {
			b.WriteString(pick(d, " ", " ", " ", "  ", "\t", " \t "))
		}
		b.WriteString(w)
	}
	if d.Intn(4) == 0 {
		b.WriteString(pick(d, " ", "\t", "   "))
	}
	return b.String()
}

// spoilt is a rule's words with some that were left out, doubled, exchanged or put in.
func (d dice) spoilt(words []string) []string {
	for range d.Intn(3) {
		i := d.Intn(len(words))
		switch d.Intn(5) {
		case 0:
			words = slices.Delete(words, i, i+1)
		case 1:
			words = slices.Insert(words, i, words[i])
		case 2:
			words = slices.Insert(words, d.Intn(len(words)+1), pick(d, vocabulary...))
		case 3:
			words[i] = pick(d, vocabulary...)
		case 4:
			words = words[:i]
		}
		if len(words) == 0 {
			return words
		}
	}
	return words
}

// agrees compares ParseRule with the second reading, and tells the error.
func agrees(t *testing.T, line string) api.Errno {
	t.Helper()
	r, e, place := rules.ParseRule(line)
	want, we, wp := modelParse(line)
	if !same(r, want) || e != we || place != wp {
		t.Fatalf("ParseRule(%q) = %+v, %d, %d\nwant %+v, %d, %d", line, r, e, place, want, we, wp)
	}
	if e == api.OK && rules.Check(r) != api.OK {
		t.Fatalf("Check of %q = %d", line, rules.Check(r))
	}
	return e
}

// 16.2, 16.4: drawn lines, against a second reading of the grammar; what is read is written, and read as the same.
func TestParseRuleAgainstModel(t *testing.T) {
	d := dice{rand.New(rand.NewSource(162))}
	count := map[api.Errno]int{}
	for range 60000 {
		words := wordForm.FindAllString(line(t, d.rule()), -1)
		text := d.blanked(d.spoilt(words))
		e := agrees(t, text)
		count[e]++
		if r, _, _ := rules.ParseRule(text); e == api.OK {
			canon := line(t, r)
			reads(t, canon, r)
			prints(t, r, canon)
		}
	}
	for _, e := range []api.Errno{api.OK, api.ErrWord, api.ErrRuleEnd, api.ErrNumber, api.ErrNet, api.ErrRulePorts, api.ErrClause} {
		if count[e] < 100 {
			t.Errorf("the error %d was drawn %d times", e, count[e])
		}
	}
}

// 16.2: lines cut off at each byte, and with each byte turned into another one.
func TestParseRuleOfSpoiltBytes(t *testing.T) {
	d := dice{rand.New(rand.NewSource(1622))}
	for range 300 {
		text := line(t, d.rule())
		for i := range len(text) {
			agrees(t, text[:i])
			b := []byte(text)
			b[i] = pick(d, ' ', ',', '\t', '!', '/', '-', '.', ':', 'x', '0', '9', byte(d.Intn(256)))
			agrees(t, string(b))
		}
	}
}

// 16.2: words one behind the other, each of those that stand in rules: all lines of up to three, and drawn ones of more.
func TestParseRuleOfWords(t *testing.T) {
	for _, a := range []string{"permit", "deny", ","} {
		for _, b := range vocabulary {
			agrees(t, a+" "+b)
			for _, c := range vocabulary {
				agrees(t, a+" "+b+" "+c)
			}
		}
	}
	for _, head := range []string{"permit tcp", "deny ip6 udp", "reject icmp", "deny arp", "permit class 1 any", "permit ip4 icmp6"} {
		for _, b := range vocabulary {
			for _, c := range vocabulary {
				agrees(t, head+" "+b+" "+c)
				agrees(t, head+" from any "+b+" "+c)
				agrees(t, head+" to "+b+" "+c)
				agrees(t, head+" flags syn "+b+c)
			}
		}
	}
}

// 16.7: drawn sets and packets, against a second reading of what matches.
func TestJudgeAgainstModel(t *testing.T) {
	d := dice{rand.New(rand.NewSource(167))}
	hits := map[int]int{}
	for range 3000 {
		l := d.some(1 + d.Intn(12))
		s := made(t, l...)
		for range 20 {
			port, p := d.Intn(9), d.packet()
			want := modelJudge(l, port, p)
			if v := s.Judge(port, p); v != want {
				t.Fatalf("%q: Judge(%d, %+v) = %+v, want %+v", s.Lines(), port, p, v, want)
			}
			hits[want.Act*100+want.Rule]++
		}
	}
	for _, k := range []int{199, 100, 200, 300, 101, 201, 301} {
		if hits[k] < 50 {
			t.Errorf("the verdict %d was drawn %d times", k, hits[k])
		}
	}
}
