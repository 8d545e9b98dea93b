package desk_test

import (
	"regexp"
	"slices"
	"strings"
	"testing"

	"weir/addr"
	"weir/api"
	"weir/box"
	"weir/rules"
)

// 20.2: every kind of line says its part.
func TestWholeConfig(t *testing.T) {
	reads(t, whole, wholeConfig())
	if e := box.Check(wholeConfig()); e != api.OK {
		t.Fatal(e)
	}
	reads(t, least, api.Config{
		Ports: []api.PortConfig{{Mac: api.Mac{2, 0, 0, 0, 0, 1}, MTU: 1500, Rx: 8, Tx: 8, Pool: 32, Size: 2048}},
		Neigh: api.NeighConfig{Max: 1, Line: 1, Every: 1, Tries: 1, Fresh: 1}, Contexts: 1, Ticks: 1, Nat: -1,
		Classes: []api.Class{{Quantum: 64, Items: 1, Bytes: 1}},
	})
}

// 20.2: the lines stand in any order; those of one kind count in theirs.
func TestOrderOfLines(t *testing.T) {
	lines := wholeLines()
	for seed := range int64(20) {
		d := rolled(seed)
		var turned []string
		left := map[string][]string{}
		var kinds []string
		for _, l := range lines {
			kind, _, _ := strings.Cut(l, " ")
			left[kind] = append(left[kind], l)
			kinds = append(kinds, kind)
		}
		d.Shuffle(len(kinds), func(i, j int) { kinds[i], kinds[j] = kinds[j], kinds[i] })
		for _, k := range kinds {
			turned = append(turned, left[k][0])
			left[k] = left[k][1:]
		}
		reads(t, strings.Join(turned, "\n"), wholeConfig())
	}
	swapped := slices.Clone(lines)
	swapped[12], swapped[13] = swapped[13], swapped[12]
	swapped[7], swapped[8] = swapped[8], swapped[7]
	swapped[4], swapped[5] = swapped[5], swapped[4]
	reads(t, strings.Join(swapped, "\n"), with(wholeConfig(), func(c *api.Config) {
		slices.Reverse(c.Classes)
		slices.Reverse(c.Rules)
		c.Routes[0], c.Routes[1] = c.Routes[1], c.Routes[0]
	}))
}

var wordForm = regexp.MustCompile(`[^ \t]+`)

// fault is what a word of a line is, told by what is wrong with a `?` in its place.
func fault(word string) (api.Errno, int) {
	switch {
	case len(word) == 17 && strings.Count(word, ":") == 5:
		return api.ErrText, 0
	case strings.Contains(word, "/"):
		return api.ErrCut, 1
	case strings.ContainsAny(word, ".:"):
		return api.ErrText, 0
	}
	return api.ErrDeskLine, 0
}

// 20.2: at the first word that may not stand where it stands, and where one is missing, the line is refused.
func TestEveryWord(t *testing.T) {
	for n, line := range wholeLines() {
		line = strings.ReplaceAll(line, " ", "\t  ")
		if strings.HasPrefix(line, "rule") {
			continue // its words are those of rules
		}
		ahead := strings.Repeat("# as it was\n", n)
		places := wordForm.FindAllStringIndex(line, -1)
		for i, at := range places[1:] {
			from, to := at[0], at[1]
			e, place := fault(line[from:to])
			refuses(t, ahead+line[:from]+"?"+line[to:]+" # ?", e, n, from+place)
			refuses(t, ahead+line[:from]+"?\n?", e, n, from+place)
			cut := line[:places[i][1]] + "  # é"
			if next := line[from:to]; next == "net4" || next == "net6" || next == "via" {
				refuses(t, ahead+cut, api.ErrLacks, n+1, 0)
			} else {
				refuses(t, ahead+cut, api.ErrDeskLine, n, len(cut))
			}
		}
		refuses(t, ahead+line+" \t0 1", api.ErrDeskLine, n, len(line)+2)
		refuses(t, ahead+line+" port", api.ErrDeskLine, n, len(line)+1)
	}
}

// 20.2: what may be left out stands in its order, and once.
func TestLeftOut(t *testing.T) {
	const port = "port 02:00:00:00:00:09 mtu 1500 vid 0 rx 4 tx 4 pool 8 size 2048"
	const net4, net6 = " net4 10.0.0.1/24", " net6 2001::1/64"
	for _, c := range []struct {
		right, wrong string
		place        int // in what is wrong
	}{
		{port + net6, net4, 1}, {port + net4, net4, 1}, {port + net6, net6, 1}, {port + net4 + net6, net4, 1},
		{port, " net", 1}, {port, " net5 ::/0", 1}, {port, " NET4 10.0.0.1/24", 1}, {port, " 10.0.0.1/24", 1}, {port, " net4", 5}, {port + net4, " net6 # ", 8},
		{"route 10.0.0.0/8 port 0 via 10.0.0.1", " via", 1}, {"route 10.0.0.0/8", " via 10.0.0.1", 1}, {"route 10.0.0.0/8 port 0", " 10.0.0.1", 1}, {"route 10.0.0.0/8 port", " via 1", 1},
		{"class", " items 1 quantum 64", 1}, {"reasm", " ticks 1 contexts 1", 1}, {"neigh max", " line 1", 1}, {"nat port 0 outside 192.0.2.9 ports 1", " max 3", 1},
	} {
		refuses(t, c.right+c.wrong, api.ErrDeskLine, 0, len(c.right)+c.place)
	}
}

// 20.2: a word of an address is refused as addr refuses it, at the byte that it tells.
func TestAddressWords(t *testing.T) {
	long := strings.Repeat("1", 50)
	for _, w := range []string{"02:00:00:00:00:0", "02:00:00:00:00:0g", "02:00:00:00:00:01:", "02-00", "mtu", "02:00:00:00:00:011", long} {
		_, e, place := addr.ParseMac(w)
		refuses(t, " port  "+w+" mtu 1500", e, 0, 7+place)
	}
	for _, w := range []string{"10.0.0.1/8", "10.0.0.0", "10.0.0.0/", "10.0.0.0/33", "10.0.0.0/08", "10.0.0.0/8x", "10.0..0/8", "::g/64", "2001:db8::/129", "1::2::3/4", "port", "/", long, "1/" + long} {
		_, e, place := addr.ParsePrefix(w)
		refuses(t, "\troute\t"+w+" port x", e, 0, 7+place)
	}
	for _, w := range []string{"10.0.0", "10.0.0.256", "10.0.0.1/32", "::g", "1:2:3", "via", long} {
		_, e, place := addr.ParseIP(w)
		refuses(t, "route 10.0.0.0/8 port 0 via "+w+" x", e, 0, 28+place)
		refuses(t, "nat port 1 outside "+w, e, 0, 19+place)
	}
	refuses(t, "route 10.0.0.1/8 port 0", api.ErrHostBits, 0, 6)
}

// 20.2: an own address may have bits behind its length; its bounds are not asked where it is read.
func TestNetWords(t *testing.T) {
	const ahead = "port 02:00:00:00:00:09 mtu 1500 vid 0 rx 4 tx 4 pool 8 size 2048 net4 "
	long := strings.Repeat("1", 50)
	for _, c := range []struct {
		word  string
		e     api.Errno
		place int
	}{
		{"10.0.0.1", api.ErrCut, 8}, {"x", api.ErrCut, 1}, {long, api.ErrCut, 50}, {"net6", api.ErrCut, 4}, {"10.0.0.999", api.ErrCut, 10},
		{"/", api.ErrCut, 0}, {"10.0.0/24", api.ErrCut, 6}, {"10.0.0.256/x", api.ErrGroup, 7}, {"x/24", api.ErrText, 0}, {"::g/64", api.ErrText, 2}, {long + "/24", api.ErrLong, 45},
		{"10.0.0.1/", api.ErrLength, 9}, {"10.0.0.1/x", api.ErrLength, 9}, {"10.0.0.1/024", api.ErrLength, 9}, {"10.0.0.1/-1", api.ErrLength, 9}, {"10.0.0.1/+1", api.ErrLength, 9},
		{"10.0.0.1/24x", api.ErrLength, 9}, {"10.0.0.1/24/", api.ErrLength, 9}, {"10.0.0.1/268435457", api.ErrLength, 9}, {"2001:db8::1/6 4", api.ErrDeskLine, 14},
		{"10.0.0.1/24#", api.ErrLength, 9}, {"10.0.0.1/" + long, api.ErrLength, 9},
	} {
		refuses(t, ahead+c.word, c.e, 0, len(ahead)+c.place)
		refuses(t, ahead+"10.0.0.1/24 net6  "+c.word, c.e, 0, len(ahead)+18+c.place)
	}
	for _, word := range []string{"10.0.0.1/0", "10.0.0.1/33", "10.0.0.1/268435456", "2001:db8::1/64", "127.0.0.1/8", "0.0.0.0/0"} {
		refuses(t, strings.Replace(least, "size 2048", "size 2048 net4 "+word, 1), api.ErrConfig, 4, 0)
	}
	c := config(t, strings.Replace(least, "size 2048", "size 2048 net4 10.255.255.254/1 net6 2001:db8::ffff/1", 1))
	if p := c.Ports[0]; p.Net4 != net("10.255.255.254/1") || p.Net6 != net("2001:db8::ffff/1") {
		t.Errorf("read are %+v", p)
	}
}

// 20.2: a rule joins the others as its canonical line; it is refused as rules refuses it, at the place in the line.
func TestRuleLines(t *testing.T) {
	text := least + "rule  permit\tclass 0  proto 6 to  any port 80-80 , 90 flags !ack,syn  # x\nrule deny any#no\n"
	refuses(t, text, api.ErrWord, 5, 10)
	text = strings.Replace(text, "any#no", "ip4 from 10.0.0.1/32", 1)
	if c := config(t, text); !slices.Equal(c.Rules, []string{"permit tcp to any port 80,90 flags syn,!ack", "deny ip4 from 10.0.0.1"}) {
		t.Errorf("read are %q", c.Rules)
	}
	for _, rule := range []string{"allow any", "permit", "permit tcp from", "permit class 8 any", "permit tcp from any port 90-80", "permit any \xff any", "permit any \v", "permit any any # any", ",", "permit tcp , #"} {
		rest, _, _ := strings.Cut(rule, "#")
		rest = strings.TrimRight(rest, " \t")
		_, e, place := rules.ParseRule(rest)
		refuses(t, "# one\n\trule \t "+rule+" \t ", e, 1, 8+place)
		refuses(t, "rule "+rule+"\t# a remark", e, 0, 5+place)
	}
	refuses(t, "rule permit", api.ErrRuleEnd, 0, 11)
	refuses(t, "rule permit   # x", api.ErrRuleEnd, 0, 11)
	refuses(t, "rule", api.ErrDeskLine, 0, 4)
	refuses(t, "rule \t", api.ErrDeskLine, 0, 6)
}

// 20.2: a rule's bound is that of what stands from its first word to its last one.
func TestLongRules(t *testing.T) {
	rule := func(n int) string { return "permit" + strings.Repeat(" ", n-9) + "any" }
	lines := "rule" + strings.Repeat(" ", 50) + rule(1024) + strings.Repeat(" ", 50) + "# " + strings.Repeat("x", 50)
	if c := config(t, least+lines); !slices.Equal(c.Rules, []string{"permit any"}) {
		t.Errorf("read are %q", c.Rules)
	}
	refuses(t, least+"  rule "+rule(1025)+" #", api.ErrLong, 4, 7+1024)
	refuses(t, least+"rule "+swelling(t), api.ErrLong, 5, 0)
	refuses(t, least+"rule "+swellingTo(t, 1025), api.ErrLong, 5, 0)
	if c := config(t, least+"rule "+swellingTo(t, 1024)); len(c.Rules) != 1 || len(c.Rules[0]) != 1024 {
		t.Errorf("read are %q", c.Rules)
	}
}

// swelling is a rule that may be, but whose canonical line is too long.
func swelling(t *testing.T) string {
	t.Helper()
	return swellingTo(t, 1100)
}

// swellingTo is a rule whose canonical line has n bytes, which are more than it has itself.
func swellingTo(t *testing.T, n int) string {
	t.Helper()
	list := func(one string, n int) string { return strings.TrimSuffix(strings.Repeat(one+",", n), ",") }
	nets := list("::ffff:ffff:ffff", 16)
	for ranges := 1; ranges < 32; ranges++ {
		for _, last := range []string{"1", "12", "123", "1234", "12345", "1-1000", "10-1000", "100-1000", "1000-1001", "1000-10000", "10000-10001"} {
			from, to := min(ranges, 16), max(1, ranges-16)
			line := "permit ip6 tcp from " + nets + " port " + list("10000-65535", from) + " to " + nets + " port " + list("10000-65535", to-1) + "," + last
			line = strings.Replace(line, " ,", " ", 1)
			r, e, _ := rules.ParseRule(line)
			if e != api.OK {
				t.Fatal(e)
			}
			if l, _ := rules.PrintRule(r); len(l) == n && len(line) < n {
				return line
			}
		}
	}
	t.Fatalf("none has %d bytes", n)
	return ""
}

// 20.2: a text of too many bytes or lines is refused ahead of all else.
func TestTooMuchText(t *testing.T) {
	n := strings.Count(whole, "\n")
	reads(t, whole+strings.Repeat("\n", 512-n), wholeConfig())
	reads(t, whole+strings.Repeat("\n", 511-n)+"#", wholeConfig())
	refuses(t, whole+strings.Repeat("\n", 513-n), api.ErrDesk, 0, 0)
	refuses(t, whole+strings.Repeat("\n", 512-n)+"#", api.ErrDesk, 0, 0)
	refuses(t, "x"+strings.Repeat("\n", 513), api.ErrDesk, 0, 0)
	refuses(t, strings.Repeat("\n", 512), api.ErrLacks, 512, 0)
	reads(t, whole+"#"+strings.Repeat("x", 1<<20-1-len(whole)), wholeConfig())
	refuses(t, whole+"#"+strings.Repeat("x", 1<<20-len(whole)), api.ErrDesk, 0, 0)
	refuses(t, "x"+strings.Repeat(" ", 1<<20), api.ErrDesk, 0, 0)
	refuses(t, strings.Repeat(" ", 1<<20), api.ErrLacks, 1, 0)
	refuses(t, strings.Repeat("\n", 1<<20), api.ErrDesk, 0, 0)
	refuses(t, strings.Repeat("x ", 1<<19), api.ErrDeskLine, 0, 0)
}

// 20.2: neigh, reasm and nat may be said once; this is told ahead of what else their line has.
func TestTwice(t *testing.T) {
	n := strings.Count(whole, "\n")
	for _, line := range []string{"neigh", "reasm", "nat"} {
		refuses(t, whole+line, api.ErrTwice, n, 0)
		refuses(t, whole+" \t"+line+" # x", api.ErrTwice, n, 2)
		refuses(t, whole+line+" x", api.ErrTwice, n, 0)
		refuses(t, whole+line+"\nx", api.ErrTwice, n, 0)
		refuses(t, whole+"x\n"+line, api.ErrDeskLine, n, 0)
		refuses(t, line+"\n"+line, api.ErrDeskLine, 0, len(line))
	}
	reads(t, whole+"class quantum 64 items 1 bytes 1 rate 0 burst 9", with(wholeConfig(), func(c *api.Config) {
		c.Classes = append(c.Classes, api.Class{Quantum: 64, Items: 1, Bytes: 1, Burst: 9})
	}))
}

// 20.2: of four kinds of lines there must be one; a line that is wrong is told ahead of that, the box's errors behind it.
func TestLacks(t *testing.T) {
	lines := strings.Split(strings.TrimSuffix(least, "\n"), "\n")
	for i := range lines {
		l := slices.Delete(slices.Clone(lines), i, i+1)
		refuses(t, strings.Join(l, "\n"), api.ErrLacks, 3, 0)
		refuses(t, strings.Join(l, "\n")+"\n\n# x\n", api.ErrLacks, 5, 0)
		refuses(t, strings.Replace(strings.Join(l, "\n"), " 1 ", " 0 ", -1), api.ErrLacks, 3, 0)
		refuses(t, strings.Join(l, "\n")+"\nx", api.ErrDeskLine, 3, 0)
		l[i%3] = "# " + l[i%3]
		refuses(t, strings.Join(l, "\n"), api.ErrLacks, 3, 0)
	}
	refuses(t, "route 10.0.0.0/8 port 9\nrule permit any\n", api.ErrLacks, 2, 0)
}

// 20.2: a configuration that may not be is refused as box.Check refuses it.
func TestCheck(t *testing.T) {
	for _, c := range []struct {
		old, now string
		e        api.Errno
	}{
		{"mtu 1500", "mtu 1279", api.ErrConfig}, {"port 02:00:00:00:01:01", "port 02:00:00:00:00:01", api.ErrConfig}, {"port 0a:00", "port 0b:00", api.ErrConfig},
		{"vid 7", "vid 4095", api.ErrConfig}, {"rx 8", "rx 0", api.ErrArg}, {"tx 16", "tx 4097", api.ErrArg}, {"pool 32", "pool 8193", api.ErrArg}, {"size 64", "size 63", api.ErrArg},
		{"192.0.2.1/24", "192.0.2.1/33", api.ErrConfig}, {"net6 2001:db8:1::1/128", "net6 192.0.3.1/24", api.ErrConfig},
		{"port 1 via", "port 4 via", api.ErrPort}, {"0.0.0.0/0 port 1", "0.0.0.0/0 port 2", api.ErrConfig}, {"route 10.9.0.0/16", "route 10.0.0.0/24", api.ErrKnown}, {"via fe80::9", "via ::1", api.ErrVia},
		{"neigh max 16", "neigh max 0", api.ErrNeigh}, {"contexts 5", "contexts 257", api.ErrArg}, {"ticks 10", "ticks 0", api.ErrArg},
		{"nat port 1", "nat port 4", api.ErrConfig}, {"nat port 1", "nat port 2", api.ErrConfig}, {"max 17", "max 0", api.ErrConfig}, {"max 17", "max 4097", api.ErrFlowConfig}, {"ports 1000 1003", "ports 1003 1000", api.ErrFlowConfig},
		{"outside 192.0.2.9", "outside 192.0.2.1", api.ErrConfig}, {"outside 192.0.2.9", "outside 2001::1", api.ErrFlowConfig}, {"icmp 2", "icmp 0", api.ErrFlowConfig},
		{"quantum 65", "quantum 63", api.ErrQueue}, {"burst 268435456", "burst 65534", api.ErrQueue},
	} {
		text := strings.Replace(whole, c.old, c.now, 1)
		if text == whole {
			t.Fatalf("%s stands nowhere", c.old)
		}
		refuses(t, text, c.e, 14, 0)
		refuses(t, text+"\n \n# x", c.e, 17, 0)
	}
	refuses(t, least+strings.Repeat("rule permit any\n", 257), api.ErrRules, 261, 0)
	if c := config(t, least+strings.Repeat("rule permit any\n", 256)); len(c.Rules) != 256 {
		t.Errorf("read are %d rules", len(c.Rules))
	}
}
