package desk_test

import (
	"fmt"
	"regexp"
	"slices"
	"strings"
	"testing"

	"weir/addr"
	"weir/api"
	"weir/box"
	"weir/desk"
	"weir/rules"
)

// modelForms are the lines as the document writes them.
var modelForms = map[string]string{
	"port":  "MAC mtu N vid N rx N tx N pool N size N [net4 IP/LEN] [net6 IP/LEN]",
	"route": "PREFIX port N [via IP]",
	"rule":  "RULE",
	"neigh": "max N line N every N tries N fresh N",
	"reasm": "contexts N ticks N",
	"nat":   "port N outside IP ports N N max N syn N tcp N fin N udp N icmp N",
	"class": "quantum N items N bytes N rate N burst N",
}

var (
	numberForm = regexp.MustCompile(`^(0|[1-9][0-9]{0,8})$`)
	netForm    = regexp.MustCompile(`^([^/]*)/(.*)$`)
)

func modelNumber(w string) (n int, ok bool) {
	if !numberForm.MatchString(w) {
		return 0, false
	}
	fmt.Sscan(w, &n)
	return n, n <= 268435456
}

// modelNet reads an own address.
func modelNet(w string) (p api.Prefix, e api.Errno, place int) {
	m := netForm.FindStringSubmatch(w)
	if m == nil {
		return p, api.ErrCut, len(w)
	}
	if p.IP, e, place = addr.ParseIP(m[1]); e != api.OK {
		return p, e, place
	}
	n, ok := modelNumber(m[2])
	if !ok {
		return p, api.ErrLength, len(m[1]) + 1
	}
	p.Len = n
	return p, api.OK, 0
}

// modelLine is a line as it is read: its values by the key ahead of them (the second number behind a key by that key twice).
type modelLine struct {
	numbers map[string]int
	mac     api.Mac
	nets    map[string]api.Prefix
	ips     map[string]api.IP
	rule    string
}

// modelRead is a second reading of a line's words behind the first, by its form.
func modelRead(line string, words [][]int, form string) (l modelLine, e api.Errno, place int) {
	l = modelLine{numbers: map[string]int{}, nets: map[string]api.Prefix{}, ips: map[string]api.IP{}}
	key, i := "", 0
	parts := strings.Fields(form)
	for k := 0; k < len(parts); k++ {
		part := strings.Trim(parts[k], "[]")
		if strings.HasPrefix(parts[k], "[") && (i == len(words) || line[words[i][0]:words[i][1]] != part) {
			k++
			continue
		}
		if i == len(words) {
			return l, api.ErrDeskLine, len(line)
		}
		from, w := words[i][0], line[words[i][0]:words[i][1]]
		ok := true
		switch part {
		case "MAC":
			l.mac, e, place = addr.ParseMac(w)
		case "PREFIX":
			l.nets[key], e, place = addr.ParsePrefix(w)
		case "IP":
			l.ips[key], e, place = addr.ParseIP(w)
		case "IP/LEN":
			l.nets[key], e, place = modelNet(w)
		case "RULE":
			var r api.Rule
			r, e, place = rules.ParseRule(line[from:words[len(words)-1][1]])
			l.rule, _ = rules.PrintRule(r)
			i = len(words) - 1
		case "N":
			if _, twice := l.numbers[key]; twice {
				key += key
			}
			l.numbers[key], ok = modelNumber(w)
		default:
			key, ok = part, w == part
		}
		if !ok {
			e = api.ErrDeskLine
		}
		if e != api.OK {
			return l, e, from + place
		}
		i++
	}
	if i < len(words) {
		return l, api.ErrDeskLine, words[i][0]
	}
	return l, api.OK, 0
}

// modelAdd lays a line into a configuration.
func modelAdd(c *api.Config, kind string, l modelLine) {
	n := l.numbers
	switch kind {
	case "port":
		c.Ports = append(c.Ports, api.PortConfig{Mac: l.mac, MTU: n["mtu"], Vid: n["vid"], Rx: n["rx"], Tx: n["tx"], Pool: n["pool"], Size: n["size"], Net4: l.nets["net4"], Net6: l.nets["net6"]})
	case "route":
		c.Routes = append(c.Routes, api.Route{Prefix: l.nets[""], Port: n["port"], Via: l.ips["via"]})
	case "rule":
		c.Rules = append(c.Rules, l.rule)
	case "neigh":
		c.Neigh = api.NeighConfig{Max: n["max"], Line: n["line"], Every: n["every"], Tries: n["tries"], Fresh: n["fresh"]}
	case "reasm":
		c.Contexts, c.Ticks = n["contexts"], n["ticks"]
	case "nat":
		c.Nat = n["port"]
		c.Flow = api.FlowConfig{Max: n["max"], Outside: l.ips["outside"], Lo: n["ports"], Hi: n["portsports"], Syn: n["syn"], Tcp: n["tcp"], Fin: n["fin"], Udp: n["udp"], Icmp: n["icmp"]}
	case "class":
		c.Classes = append(c.Classes, api.Class{Quantum: n["quantum"], Items: n["items"], Bytes: n["bytes"], Rate: n["rate"], Burst: n["burst"]})
	}
}

// modelConfig is a second reading of 20.2.
func modelConfig(text string) (api.Config, api.Errno, int, int) {
	var lines []string
	if text != "" {
		lines = strings.Split(strings.TrimSuffix(text, "\n"), "\n")
	}
	if len(text) > 1048576 || len(lines) > 512 {
		return api.Config{}, api.ErrDesk, 0, 0
	}
	c, seen := api.Config{Nat: -1}, map[string]int{}
	for i, line := range lines {
		words := wordForm.FindAllStringIndex(line, -1)
		if at := slices.IndexFunc(words, func(w []int) bool { return line[w[0]] == '#' }); at >= 0 {
			words = words[:at]
		}
		if len(words) == 0 {
			continue
		}
		kind := line[words[0][0]:words[0][1]]
		form, ok := modelForms[kind]
		if !ok {
			return api.Config{}, api.ErrDeskLine, i, words[0][0]
		}
		if seen[kind]++; seen[kind] == 2 && strings.Contains("neigh reasm nat", kind) {
			return api.Config{}, api.ErrTwice, i, words[0][0]
		}
		l, e, place := modelRead(line, words[1:], form)
		if e != api.OK {
			return api.Config{}, e, i, place
		}
		modelAdd(&c, kind, l)
	}
	for _, kind := range []string{"port", "neigh", "reasm", "class"} {
		if seen[kind] == 0 {
			return api.Config{}, api.ErrLacks, len(lines), 0
		}
	}
	if e := box.Check(c); e != api.OK {
		return api.Config{}, e, len(lines), 0
	}
	return c, api.OK, 0, 0
}

// mixWords is a line with one word changed, taken, doubled or added.
func (d dice) mixWords(line string) string {
	words := strings.Split(line, " ")
	i := d.Intn(len(words))
	other := pick(d, "0", "1", "7", "01", "268435457", "x", "#", "#x", "port", "via", "net4", "net6", "10.0.0.1", "10.0.0.1/24", "2001:db8::5/64", "::", "192.0.2.7/", "/5", "10.0.0.0/8", "02:00:00:00:00:77", "mtu", "max", "-", "", ",", "permit", "any", "\xff", "é", "nat", "class")
	switch d.Intn(5) {
	case 0:
		words[i] = other
	case 1:
		words = slices.Delete(words, i, i+1)
	case 2:
		words = slices.Insert(words, i, words[i])
	case 3:
		words = slices.Insert(words, i, other)
	default:
		j := d.Intn(len(words))
		words[i], words[j] = words[j], words[i]
	}
	return strings.Join(words, pick(d, " ", " ", " ", "\t", "  ", " \t "))
}

// text is one of lines that were mixed, now and then with a fault.
func (d dice) text() string {
	lines := wholeLines()
	if d.once(3) {
		lines = strings.Split(printed(d.config()), "\n")
	}
	for range d.Intn(3) {
		i, j := d.Intn(len(lines)), d.Intn(len(lines))
		switch d.Intn(7) {
		case 0:
			lines[i], lines[j] = lines[j], lines[i]
		case 1:
			lines = append(lines, lines[i])
		case 2:
			lines = slices.Delete(lines, i, i+1)
		case 3:
			lines[i] = pick(d, " ", "\t", "", "#") + lines[i] + pick(d, "", " ", "\t# x", " #")
		default:
			lines[i] = d.mixWords(lines[i])
		}
	}
	text := strings.Join(lines, "\n")
	if d.once(20) {
		text = text[:d.Intn(len(text)+1)]
	}
	if d.once(20) && len(text) > 0 {
		b := []byte(text)
		b[d.Intn(len(b))] = pick[byte](d, ' ', '\t', '\n', '#', '0', '1', ':', '.', '/', 0, 0xff)
		text = string(b)
	}
	return text
}

// 20.1, 20.2: whatever the text is, it is read as the second reading of the chapter reads it.
func TestAgainstTheModel(t *testing.T) {
	seen := map[api.Errno]int{}
	for seed := range int64(4000) {
		text := rolled(seed).text()
		c, e, line, place := desk.Config(text)
		want, f, l, p := modelConfig(text)
		if e != f || line != l || place != p || !same(c, want) {
			t.Fatalf("Config(%q)\n= %+v, %d, %d, %d\nwant %+v, %d, %d, %d", text, c, e, line, place, want, f, l, p)
		}
		seen[e]++
	}
	t.Logf("answered are %v", seen)
	for _, e := range []api.Errno{
		api.OK, api.ErrArg, api.ErrText, api.ErrCut, api.ErrLength, api.ErrHostBits, api.ErrKnown, api.ErrPort, api.ErrWord, api.ErrRuleEnd,
		api.ErrConfig, api.ErrDeskLine, api.ErrTwice, api.ErrLacks,
	} {
		if seen[e] == 0 {
			t.Errorf("no text was answered by %d: the drawn texts say nothing of it", e)
		}
	}
}
