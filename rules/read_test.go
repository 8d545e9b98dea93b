package rules_test

import (
	"slices"
	"strconv"
	"strings"
	"testing"

	"weir/api"
	"weir/rules"
)

// 16.2, 16.3: the document's lines, what they say, and how they are written.
func TestLinesOfTheDocument(t *testing.T) {
	rows := []struct {
		line, canon string
		r           api.Rule
	}{
		{"permit any", "", api.Rule{Act: 1}},
		{"permit class 2 tcp from 10.0.0.0/8 port 1024-65535 to any port 80,443 flags syn,!ack on p1",
			"permit class 2 tcp on p1 from 10.0.0.0/8 port 1024-65535 to any port 80,443 flags syn,!ack",
			api.Rule{Act: 1, Class: 2, Proto: 6, In: 2, Set: 2, Clear: 16,
				From: api.Side{Nets: []api.Prefix{net(t, "10.0.0.0/8")}, Ports: []api.Range{{Lo: 1024, Hi: 65535}}},
				To:   api.Side{Ports: []api.Range{{Lo: 80, Hi: 80}, {Lo: 443, Hi: 443}}}}},
		{"deny ip4 from not 10.0.0.1 , 10.0.1.0/24", "deny ip4 from not 10.0.0.1,10.0.1.0/24",
			api.Rule{Act: 2, Kind: 2, From: api.Side{Not: true, Nets: []api.Prefix{net(t, "10.0.0.1/32"), net(t, "10.0.1.0/24")}}}},
		{"reject ip6 icmp6 type 128", "", api.Rule{Act: 3, Kind: 3, Proto: 58, Type: 129}},
		{"deny arp vid 7 pieces", "", api.Rule{Act: 2, Kind: 1, Vid: 7, Pieces: true}},
	}
	for _, x := range rows {
		if x.canon == "" {
			x.canon = x.line
		}
		reads(t, x.line, x.r)
		prints(t, x.r, x.canon)
		reads(t, x.canon, x.r)
	}
}

// 16.2: the document's lines that are no rules.
func TestFaultsOfTheDocument(t *testing.T) {
	rows := []struct {
		line  string
		e     api.Errno
		place int
	}{
		{"", api.ErrRuleEnd, 0},
		{"allow any", api.ErrWord, 0},
		{"permit", api.ErrRuleEnd, 6},
		{"permit class 8 any", api.ErrNumber, 13},
		{"permit class any", api.ErrNumber, 13},
		{"deny class 1 any", api.ErrWord, 5},
		{"permit any tcp", api.ErrWord, 11},
		{"permit arp tcp", api.ErrClause, 11},
		{"permit proto 0", api.ErrNumber, 13},
		{"permit tcp on p8", api.ErrNumber, 14},
		{"permit tcp on 1", api.ErrNumber, 14},
		{"permit tcp from port 80", api.ErrNet, 16},
		{"permit tcp from any port", api.ErrRuleEnd, 24},
		{"permit tcp from any port 80-", api.ErrRulePorts, 25},
		{"permit tcp from any port 90-80", api.ErrRulePorts, 25},
		{"permit icmp from any port 80", api.ErrClause, 21},
		{"permit ip4 from ::1", api.ErrNet, 16},
		{"permit ip4 from 10.0.0.1/8", api.ErrNet, 16},
		{"permit tcp from any from any", api.ErrClause, 20},
		{"permit udp flags syn", api.ErrClause, 11},
		{"permit tcp flags syn,!syn", api.ErrClause, 21},
		{"permit tcp flags ,", api.ErrWord, 17},
		{"permit tcp type 8", api.ErrClause, 11},
		{"permit any #x", api.ErrWord, 11},
		{"permit any\x80", api.ErrWord, 10},
	}
	for _, x := range rows {
		refuses(t, x.line, x.e, x.place)
	}
}

// 16.2: a line of MaxLine bytes is read, one above it is not, whatever it holds.
func TestLongLines(t *testing.T) {
	reads(t, long("permit any", 1024), api.Rule{Act: 1})
	refuses(t, long("permit any", 1025), api.ErrLong, 1024)
	refuses(t, long("\x80", 1025), api.ErrLong, 1024)
	refuses(t, long("\x80", 1024), api.ErrWord, 0)
	refuses(t, long("permit", 1024), api.ErrRuleEnd, 1024)
	refuses(t, strings.Repeat("x", 1<<20), api.ErrLong, 1024)
	refuses(t, "permit any vid "+strings.Repeat("9", 1009), api.ErrNumber, 15)
	refuses(t, "permit any vid "+strings.Repeat("0", 1008)+"1", api.ErrNumber, 15)
}

// 16.2: of every byte: whether it parts words, stands in one, or is told ahead of all other faults.
func TestBytes(t *testing.T) {
	for c := range 256 {
		b := string([]byte{byte(c)})
		switch {
		case c == ' ' || c == '\t':
			reads(t, b+"permit"+b+b+"any"+b, api.Rule{Act: 1})
			refuses(t, "per"+b+"mit", api.ErrWord, 0)
		case c == ',':
			refuses(t, "permit any,", api.ErrWord, 10)
			refuses(t, "permit,any", api.ErrWord, 6)
			refuses(t, ",permit any", api.ErrWord, 0)
		case c >= 0x21 && c <= 0x7e:
			refuses(t, "permit any "+b, api.ErrWord, 11)
			refuses(t, b+"permit any", api.ErrWord, 0)
			refuses(t, "permit an"+b+"y", api.ErrWord, 7)
		default:
			refuses(t, "permit any"+b, api.ErrWord, 10)
			refuses(t, "wrong "+b+"\xff", api.ErrWord, 6)
			refuses(t, b, api.ErrWord, 0)
			refuses(t, "permit"+b, api.ErrWord, 6)
		}
	}
	refuses(t, "permit any \u00e9", api.ErrWord, 11)
	refuses(t, "permit\u00a0any", api.ErrWord, 6)
}

// 16.2: words must stand just so.
func TestWordsJustSo(t *testing.T) {
	refuses(t, "Permit any", api.ErrWord, 0)
	refuses(t, "permit ANY", api.ErrWord, 7)
	refuses(t, "permit TCP", api.ErrWord, 7)
	refuses(t, "permi any", api.ErrWord, 0)
	refuses(t, "permitany", api.ErrWord, 0)
	refuses(t, "permit tcps", api.ErrWord, 7)
	refuses(t, "permit ip", api.ErrWord, 7)
	refuses(t, "permit 6", api.ErrWord, 7)
	refuses(t, "permit any On p1", api.ErrWord, 11)
	refuses(t, "permit any on P1", api.ErrNumber, 14)
	refuses(t, "permit tcp flags SYN", api.ErrWord, 17)
	refuses(t, "permit any from Any", api.ErrNet, 16)
	refuses(t, "permit any from Not ::1", api.ErrNet, 16)
	refuses(t, "permit tcp from any ports 1", api.ErrWord, 20)
}

// 16.2: every number at both its ends and one beyond, and words that are none.
func TestNumbers(t *testing.T) {
	rows := []struct {
		ahead, behind string
		low, high     int
		want          func(n int) api.Rule
	}{
		{"permit class ", " any", 0, 7, func(n int) api.Rule { return api.Rule{Act: 1, Class: n} }},
		{"permit proto ", "", 1, 255, func(n int) api.Rule { return api.Rule{Act: 1, Proto: n} }},
		{"deny ip6 proto ", " pieces", 1, 255, func(n int) api.Rule { return api.Rule{Act: 2, Kind: 3, Proto: n, Pieces: true} }},
		{"permit any vid ", "", 1, 4094, func(n int) api.Rule { return api.Rule{Act: 1, Vid: n} }},
		{"permit icmp type ", "", 0, 255, func(n int) api.Rule { return api.Rule{Act: 1, Proto: 1, Type: n + 1} }},
		{"permit icmp6 type ", "", 0, 255, func(n int) api.Rule { return api.Rule{Act: 1, Proto: 58, Type: n + 1} }},
		{"permit any on p", "", 0, 7, func(n int) api.Rule { return api.Rule{Act: 1, In: n + 1} }},
	}
	for _, x := range rows {
		place := strings.LastIndex(x.ahead, " ") + 1
		for n := x.low; n <= x.high; n++ {
			reads(t, x.ahead+strconv.Itoa(n)+x.behind, x.want(n))
		}
		for _, n := range []int{x.low - 1, x.high + 1, x.low + 1<<32, -x.high} {
			refuses(t, x.ahead+strconv.Itoa(n)+x.behind, api.ErrNumber, place)
		}
		high := strconv.Itoa(x.high)
		for _, text := range []string{"0" + high, "00", "+" + high, "-0", "0x1", high + "x", "x", "1.0", "1e0", "1_0", "18446744073709551617", strings.Repeat("9", 40)} {
			refuses(t, x.ahead+text+x.behind, api.ErrNumber, place)
		}
	}
	refuses(t, "permit any on p", api.ErrNumber, 14)
	refuses(t, "permit any on pp1", api.ErrNumber, 14)
	refuses(t, "permit any on p 1", api.ErrNumber, 14)
	refuses(t, "permit any on 1p", api.ErrNumber, 14)
}

// 16.2: a comma where a value must stand, and a line that ends there.
func TestNoValue(t *testing.T) {
	for _, ahead := range []string{
		"permit class", "permit proto", "deny ip4 proto", "permit any on", "permit any vid", "permit icmp type",
		"permit tcp flags", "permit tcp flags syn,", "permit any from", "permit any to", "permit any to not", "permit any to ::1,",
		"permit tcp from any port", "permit tcp from any port 1,", "permit tcp from ::1 port 1-2,3,",
	} {
		refuses(t, ahead, api.ErrRuleEnd, len(ahead))
		refuses(t, ahead+" \t ", api.ErrRuleEnd, len(ahead)+3)
		refuses(t, ahead+",", api.ErrWord, len(ahead))
		refuses(t, ahead+" ,,", api.ErrWord, len(ahead)+1)
	}
	for _, line := range []string{"", "\t", "   ", "permit", "deny", "reject ", "permit class 1", "permit class 1  "} {
		refuses(t, line, api.ErrRuleEnd, len(line))
	}
}

// 16.2: what may stand behind an act, and what a rule is about.
func TestWhat(t *testing.T) {
	acts := map[string]int{"permit": 1, "deny": 2, "reject": 3}
	kinds := map[string]int{"": 0, "arp ": 1, "ip4 ": 2, "ip6 ": 3}
	protos := map[string]int{"": 0, "tcp": 6, "udp": 17, "icmp": 1, "icmp6": 58, "proto 6": 6, "proto 17": 17, "proto 1": 1, "proto 58": 58, "proto 255": 255}
	for act, a := range acts {
		reads(t, act+" any", api.Rule{Act: a})
		for kind, k := range kinds {
			for proto, p := range protos {
				line := act + " " + kind + proto
				switch {
				case k == 0 && p == 0:
					refuses(t, line, api.ErrRuleEnd, len(line))
				case k == api.PArp && p != 0:
					refuses(t, line, api.ErrClause, len(act)+5)
				default:
					reads(t, line, api.Rule{Act: a, Kind: k, Proto: p})
				}
			}
		}
	}
	refuses(t, "permit arp proto", api.ErrClause, 11)
	refuses(t, "permit arp proto 0", api.ErrClause, 11)
	refuses(t, "permit arp proto ,", api.ErrClause, 11)
	refuses(t, "permit arp icmp6", api.ErrClause, 11)
	refuses(t, "permit arp any", api.ErrWord, 11)
	refuses(t, "permit tcp udp", api.ErrWord, 11)
	refuses(t, "permit tcp tcp", api.ErrWord, 11)
	refuses(t, "permit ip4 arp", api.ErrWord, 11)
	refuses(t, "permit any any", api.ErrWord, 11)
	refuses(t, "permit tcp ip4", api.ErrWord, 11)
	refuses(t, "permit on p1", api.ErrWord, 7)
	refuses(t, "permit from any", api.ErrWord, 7)
	refuses(t, "permit class 1 class 2 any", api.ErrWord, 15)
	refuses(t, "permit any class 1", api.ErrWord, 11)
	refuses(t, "reject class 1 any", api.ErrWord, 7)
	refuses(t, "permit , any", api.ErrWord, 7)
	refuses(t, "any", api.ErrWord, 0)
}

// 16.2: clauses in any order are the same rule; each stands once.
func TestClausesInAnyOrder(t *testing.T) {
	of := map[string][]string{
		"permit class 3 ip4 tcp": {"on p2", "vid 9", "from 10.0.0.0/8 port 1", "to not 10.0.0.1", "flags syn,!ack", "pieces"},
		"deny icmp":              {"on p0", "vid 4094", "from any", "to ::1,10.0.0.1", "type 0", "pieces"},
	}
	for head, clauses := range of {
		want, e, _ := rules.ParseRule(head + " " + strings.Join(clauses, " "))
		if e != api.OK {
			t.Fatalf("%s: %d", head, e)
		}
		orders(clauses, func(l []string) { reads(t, head+" "+strings.Join(l, " "), want) })
		for _, c := range clauses {
			once := head + " " + c
			word, _, _ := strings.Cut(c, " ")
			refuses(t, once+" "+c, api.ErrClause, len(once)+1)
			refuses(t, once+" "+word, api.ErrClause, len(once)+1)
			all := head + " " + strings.Join(clauses, " ")
			refuses(t, all+" "+c, api.ErrClause, len(all)+1)
		}
	}
}

// orders calls f with the list in each of its orders.
func orders(l []string, f func([]string)) {
	var from func(i int)
	from = func(i int) {
		if i == len(l) {
			f(l)
			return
		}
		for j := i; j < len(l); j++ {
			l[i], l[j] = l[j], l[i]
			from(i + 1)
			l[i], l[j] = l[j], l[i]
		}
	}
	from(0)
}

// 16.2: flags, types and ports stand with their protocols alone; the protocol's number counts, not its word.
func TestClausesOfProtocols(t *testing.T) {
	for n := 1; n <= 255; n++ {
		head := "permit proto " + strconv.Itoa(n)
		place := len(head) + 1
		if n == 6 {
			reads(t, head+" flags fin", api.Rule{Act: 1, Proto: 6, Set: 1})
		} else {
			refuses(t, head+" flags fin", api.ErrClause, place)
		}
		if n == 1 || n == 58 {
			reads(t, head+" type 8", api.Rule{Act: 1, Proto: n, Type: 9})
		} else {
			refuses(t, head+" type 8", api.ErrClause, place)
		}
		ports := api.Side{Ports: []api.Range{{Lo: 8, Hi: 8}}}
		if n == 6 || n == 17 {
			reads(t, head+" from any port 8", api.Rule{Act: 1, Proto: n, From: ports})
			reads(t, head+" to any port 8", api.Rule{Act: 1, Proto: n, To: ports})
		} else {
			refuses(t, head+" from any port 8", api.ErrClause, place+9)
			refuses(t, head+" to any port 8", api.ErrClause, place+7)
		}
	}
	for _, what := range []string{"any", "arp", "ip4", "ip6"} {
		head := "permit " + what
		refuses(t, head+" flags fin", api.ErrClause, 11)
		refuses(t, head+" flags", api.ErrClause, 11)
		refuses(t, head+" type 8", api.ErrClause, 11)
		refuses(t, head+" type x", api.ErrClause, 11)
		refuses(t, head+" to any port 8", api.ErrClause, 18)
		refuses(t, head+" to any port", api.ErrClause, 18)
		refuses(t, head+" to any port ,", api.ErrClause, 18)
	}
	refuses(t, "permit tcp type 8", api.ErrClause, 11)
	refuses(t, "permit icmp flags fin", api.ErrClause, 12)
}

// 16.2: "port" stands behind the nets of a side and nowhere else.
func TestPortAlone(t *testing.T) {
	refuses(t, "permit tcp port 80", api.ErrWord, 11)
	refuses(t, "permit icmp port 80", api.ErrWord, 12)
	refuses(t, "permit any port", api.ErrWord, 11)
	refuses(t, "permit tcp from any port 80 port 81", api.ErrWord, 28)
	refuses(t, "permit tcp from any on p1 port 80", api.ErrWord, 26)
	refuses(t, "permit tcp to port 80", api.ErrNet, 14)
	refuses(t, "permit icmp to port 80", api.ErrNet, 15)
	refuses(t, "permit tcp to not port 80", api.ErrNet, 18)
}

// 16.2: flags, with and without what says that they must not be.
func TestFlags(t *testing.T) {
	names := []string{"fin", "syn", "rst", "psh", "ack", "urg", "ece", "cwr"}
	for i, name := range names {
		reads(t, "permit tcp flags "+name, api.Rule{Act: 1, Proto: 6, Set: 1 << i})
		reads(t, "permit tcp flags !"+name, api.Rule{Act: 1, Proto: 6, Clear: 1 << i})
		for j, other := range names {
			if i != j {
				reads(t, "permit tcp flags "+name+",!"+other, api.Rule{Act: 1, Proto: 6, Set: 1 << i, Clear: 1 << j})
				reads(t, "permit tcp flags "+name+" ,\t"+other, api.Rule{Act: 1, Proto: 6, Set: 1<<i | 1<<j})
			}
		}
		for _, twice := range []string{"NAME,NAME", "NAME,!NAME", "!NAME,NAME", "!NAME,!NAME"} {
			line := "permit tcp flags " + strings.ReplaceAll(twice, "NAME", name)
			refuses(t, line, api.ErrClause, strings.Index(line, ",")+1)
		}
	}
	all := "permit tcp flags " + strings.Join(names, ",")
	reads(t, all, api.Rule{Act: 1, Proto: 6, Set: 255})
	reads(t, strings.ReplaceAll(strings.ReplaceAll(all, ",", ",!"), "fin", "!fin"), api.Rule{Act: 1, Proto: 6, Clear: 255})
	refuses(t, all+",fin", api.ErrClause, len(all)+1)
	for _, word := range []string{"!", "!!syn", "syn!", "flags", "1", "any", "synack", "not", "fi"} {
		refuses(t, "permit tcp flags "+word, api.ErrWord, 17)
		refuses(t, "permit tcp flags fin,"+word, api.ErrWord, 21)
	}
	refuses(t, "permit tcp flags ! syn", api.ErrWord, 17)
	refuses(t, "permit tcp flags fin ack", api.ErrWord, 21)
}

// 16.2: nets, one or many, and which may stand by the kind.
func TestNets(t *testing.T) {
	four, six := net(t, "10.0.0.0/8"), net(t, "2001:db8::/32")
	sides := map[string]api.Side{
		"any":                          {},
		"10.0.0.0/8":                   {Nets: []api.Prefix{four}},
		"not 10.0.0.0/8":               {Not: true, Nets: []api.Prefix{four}},
		"10.0.0.1":                     {Nets: []api.Prefix{net(t, "10.0.0.1/32")}},
		"10.0.0.1/32":                  {Nets: []api.Prefix{net(t, "10.0.0.1/32")}},
		"0.0.0.0/0":                    {Nets: []api.Prefix{net(t, "0.0.0.0/0")}},
		"0.0.0.0":                      {Nets: []api.Prefix{net(t, "0.0.0.0/32")}},
		"2001:db8::/32":                {Nets: []api.Prefix{six}},
		"::":                           {Nets: []api.Prefix{net(t, "::/128")}},
		"::/0":                         {Nets: []api.Prefix{net(t, "::/0")}},
		"::FFFF:1.2.3.4":               {Nets: []api.Prefix{net(t, "::ffff:1.2.3.4/128")}},
		"10.0.0.0/8,2001:DB8:0:0::/32": {Nets: []api.Prefix{four, six}},
		"not 2001:db8::/32 ,10.0.0.0/8 , 10.0.0.0/8": {Not: true, Nets: []api.Prefix{six, four, four}},
	}
	for text, s := range sides {
		reads(t, "permit any from "+text, api.Rule{Act: 1, From: s})
		reads(t, "permit any to "+text, api.Rule{Act: 1, To: s})
		for kind, word := range []string{1: "arp", 2: "ip4", 3: "ip6"} {
			if kind == 0 {
				continue
			}
			version := map[int]int{1: 4, 2: 4, 3: 6}[kind]
			i := slices.IndexFunc(s.Nets, func(p api.Prefix) bool { return p.IP.V != version })
			head := "deny " + word + " to "
			if i < 0 {
				reads(t, head+text, api.Rule{Act: 2, Kind: kind, To: s})
				continue
			}
			refuses(t, head+text, api.ErrNet, len(head)+placeOf(text, i))
		}
	}
	for _, word := range []string{"x", "10.0.0", "10.0.0.0/33", "10.0.0.1/8", "10.0.0.0/", "/8", "10.0.0.0/8/8", "10.0.0.256", "::1::", "::/129", "::1/0", "1:2:3", "10.0.0.1-10.0.0.2", "any,", "port", "not", "from", "10.0.0.0/08", strings.Repeat("1", 100)} {
		if word != "any," && word != "not" {
			refuses(t, "permit tcp from "+word, api.ErrNet, 16)
			refuses(t, "permit tcp to "+word+" port 80", api.ErrNet, 14)
		}
		refuses(t, "permit tcp from ::1,"+word, api.ErrNet, 20)
		refuses(t, "permit tcp from not "+word, api.ErrNet, 20)
	}
	refuses(t, "permit any from any,::1", api.ErrWord, 19)
	refuses(t, "permit any from any any", api.ErrWord, 20)
	refuses(t, "permit any from any not", api.ErrWord, 20)
	refuses(t, "permit any from ::1 ::2", api.ErrWord, 20)
	refuses(t, "permit any from ::1 not ::2", api.ErrWord, 20)
	refuses(t, "permit any not ::1", api.ErrWord, 11)
	refuses(t, "permit any from 10.0.0.0 /8", api.ErrWord, 25)
}

// placeOf is the place of the i-th net of a side's text.
func placeOf(text string, i int) int {
	at := 0
	if rest, ok := strings.CutPrefix(text, "not "); ok {
		at = len(text) - len(rest)
	}
	for range i {
		at += strings.Index(text[at:], ",") + 1
	}
	return at + len(text[at:]) - len(strings.TrimLeft(text[at:], " "))
}

// 16.2: sixteen nets and sixteen ranges are read, of the next one the place is told.
func TestSixteen(t *testing.T) {
	nets := strings.Repeat("::/0,", 15) + "::1"
	ranges := strings.Repeat("7,", 15) + "8-9"
	side := api.Side{Nets: slices.Repeat([]api.Prefix{net(t, "::/0")}, 15), Ports: slices.Repeat([]api.Range{{Lo: 7, Hi: 7}}, 15)}
	side.Nets = append(side.Nets, net(t, "::1/128"))
	side.Ports = append(side.Ports, api.Range{Lo: 8, Hi: 9})
	text := nets + " port " + ranges
	reads(t, "permit tcp from "+text+" to "+text, api.Rule{Act: 1, Proto: 6, From: side, To: side})
	refuses(t, "permit tcp from "+nets+",::2", api.ErrNet, 17+len(nets))
	refuses(t, "permit tcp from "+nets+" , x", api.ErrNet, 19+len(nets))
	refuses(t, "permit tcp from "+nets+",,", api.ErrWord, 17+len(nets))
	refuses(t, "permit tcp from "+nets+",", api.ErrRuleEnd, 17+len(nets))
	refuses(t, "permit tcp to any port "+ranges+",1", api.ErrRulePorts, 24+len(ranges))
	refuses(t, "permit tcp to any port "+ranges+" ,\tx", api.ErrRulePorts, 26+len(ranges))
	refuses(t, "permit tcp to any port "+ranges+",,", api.ErrWord, 24+len(ranges))
	refuses(t, "permit tcp to any port "+ranges+",", api.ErrRuleEnd, 24+len(ranges))
}

// 16.2: ranges at both their ends, and words that are none.
func TestRanges(t *testing.T) {
	for text, l := range map[string][]api.Range{
		"0":             {{}},
		"65535":         {{Lo: 65535, Hi: 65535}},
		"0-65535":       {{Hi: 65535}},
		"80-80":         {{Lo: 80, Hi: 80}},
		"80-81,0-0 , 9": {{Lo: 80, Hi: 81}, {}, {Lo: 9, Hi: 9}},
	} {
		reads(t, "permit tcp from any port "+text, api.Rule{Act: 1, Proto: 6, From: api.Side{Ports: l}})
		reads(t, "permit udp to any port "+text, api.Rule{Act: 1, Proto: 17, To: api.Side{Ports: l}})
	}
	for _, word := range []string{"-", "80-", "-80", "65536", "0-65536", "65536-65537", "90-80", "1-0", "080", "80-080", "00", "1-2-3", "+1", "80--90", "x", "80-x", "x-80", "any", "http", "1:2", "99999999999999999999", "0-99999999999999999999"} {
		refuses(t, "permit tcp from any port "+word, api.ErrRulePorts, 25)
		refuses(t, "permit udp from any port 1,"+word, api.ErrRulePorts, 27)
	}
	refuses(t, "permit tcp from any port 80 - 90", api.ErrWord, 28)
	refuses(t, "permit tcp from any port 80 -90", api.ErrWord, 28)
	refuses(t, "permit tcp from any port 80- 90", api.ErrRulePorts, 25)
	refuses(t, "permit tcp from any port 80 90", api.ErrWord, 28)
}

// 16.2: of several faults the one farthest to the left is told, but for a stray byte, which comes ahead of all.
func TestLeftmostFault(t *testing.T) {
	refuses(t, "permit class 9 any vid 0 vid", api.ErrNumber, 13)
	refuses(t, "permit any vid 1 vid 0 on p9", api.ErrClause, 17)
	refuses(t, "permit any on p9 vid 0", api.ErrNumber, 14)
	refuses(t, "permit udp flags xyz from x", api.ErrClause, 11)
	refuses(t, "permit tcp flags xyz from x", api.ErrWord, 17)
	refuses(t, "permit ip4 from ::1 port 1", api.ErrNet, 16)
	refuses(t, "permit ip4 from 10.0.0.1 port x", api.ErrClause, 25)
	refuses(t, "permit any from x \x7f", api.ErrWord, 18)
	refuses(t, "\x1f", api.ErrWord, 0)
}
