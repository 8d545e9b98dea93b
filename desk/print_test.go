package desk_test

import (
	"fmt"
	"slices"
	"strconv"
	"strings"
	"testing"

	"weir/addr"
	"weir/api"
	"weir/desk"
	"weir/rules"
)

// 20.3: the canonical text.
func TestPrint(t *testing.T) {
	prints(t, wholeConfig(), whole)
	prints(t, config(t, least), least)
	lines := wholeLines()
	slices.Reverse(lines[9:12])
	prints(t, config(t, strings.Join(slices.Concat(lines[9:], lines[:9]), " # x\n\n")), whole)
}

// 20.3: a class that is not shaped has the burst 0; Config itself holds what the line says.
func TestBurst(t *testing.T) {
	c := config(t, strings.Replace(least, "burst 0", "burst 268435456", 1))
	if n := c.Classes[0].Burst; n != 268435456 {
		t.Errorf("read is the burst %d", n)
	}
	prints(t, c, least)
	for _, n := range []int{-1, 1, 1 << 28, 1<<63 - 1, -1 << 63} {
		prints(t, with(c, func(c *api.Config) { c.Classes[0].Burst = n }), least)
	}
	if c.Classes[0].Burst != 268435456 {
		t.Error("what was handed in was changed")
	}
}

// 20.3: rules are printed as their canonical lines, what is no rule is not.
func TestPrintRules(t *testing.T) {
	c := config(t, least)
	c.Rules = []string{"# all", "", "  permit\tclass 0 any ", " \t", "deny ip4 from 10.0.0.1/32 , 10.0.0.0/31 # x"}
	printsNot(t, c, api.ErrWord)
	c.Rules[4] = "deny ip4 from 10.0.0.1/32 , 10.0.0.0/31"
	at := strings.Index(least, "neigh")
	prints(t, c, least[:at]+"rule permit any\nrule deny ip4 from 10.0.0.1,10.0.0.0/31\n"+least[at:])
	if c.Rules[2] != "  permit\tclass 0 any " || len(c.Rules) != 5 {
		t.Error("what was handed in was changed")
	}
	c.Rules = []string{"# x"}
	prints(t, c, least)
}

// 20.3: the box's error, or ErrDesk of what could not be read again.
func TestPrintsNot(t *testing.T) {
	printsNot(t, api.Config{}, api.ErrConfig)
	printsNot(t, with(wholeConfig(), func(c *api.Config) { c.Ports[1].Mac = c.Ports[0].Mac }), api.ErrConfig)
	printsNot(t, with(wholeConfig(), func(c *api.Config) { c.Neigh.Max = 0 }), api.ErrNeigh)
	printsNot(t, with(wholeConfig(), func(c *api.Config) { c.Nat = -1 }), api.ErrConfig)
	printsNot(t, with(wholeConfig(), func(c *api.Config) { c.Flow = api.FlowConfig{} }), api.ErrConfig)
	printsNot(t, with(wholeConfig(), func(c *api.Config) { c.Routes[0].Via = ip("::1") }), api.ErrVia)
	printsNot(t, with(wholeConfig(), func(c *api.Config) { c.Classes = nil }), api.ErrQueue)
	printsNot(t, with(config(t, least), func(c *api.Config) { c.Nat = 0 }), api.ErrConfig)
	swollen := with(wholeConfig(), func(c *api.Config) { c.Rules = append(c.Rules, swelling(t)) })
	printsNot(t, swollen, api.ErrDesk)
	printsNot(t, with(swollen, func(c *api.Config) { c.Rules = []string{swellingTo(t, 1025)} }), api.ErrDesk)
	full := with(swollen, func(c *api.Config) { c.Rules = []string{swellingTo(t, 1024)} })
	prints(t, full, printed(full))
	printsNot(t, with(swollen, func(c *api.Config) { c.Neigh.Max = 0 }), api.ErrNeigh)
}

// manyLines is a configuration whose text has n lines.
func manyLines(n int) api.Config {
	c := wholeConfig()
	for i := len(c.Routes); i < 252; i++ { // with the four of the ports' links
		c.Routes = append(c.Routes, api.Route{Prefix: net("20.0." + strconv.Itoa(i) + ".0/24"), Port: 1})
	}
	c.Rules = slices.Repeat([]string{"permit any"}, n-4-len(c.Routes)-3-len(c.Classes))
	return c
}

// 20.3: a text has at most 512 lines.
func TestPrintsManyLines(t *testing.T) {
	c := manyLines(512)
	text, e := desk.PrintConfig(c)
	if e != api.OK || strings.Count(text, "\n") != 512 {
		t.Fatalf("PrintConfig = %d lines, %d", strings.Count(text, "\n"), e)
	}
	reads(t, text, c)
	printsNot(t, manyLines(513), api.ErrDesk)
	prints(t, with(manyLines(513), func(c *api.Config) { c.Rules[0] = "# permit any" }), text)
}

// printed is a second writing of a configuration that may be.
func printed(c api.Config) string {
	var b strings.Builder
	text := func(ip api.IP) string { s, _ := addr.PrintIP(ip); return s }
	for _, p := range c.Ports {
		fmt.Fprintf(&b, "port %s mtu %d vid %d rx %d tx %d pool %d size %d", addr.PrintMac(p.Mac), p.MTU, p.Vid, p.Rx, p.Tx, p.Pool, p.Size)
		if p.Net4.IP.V != 0 {
			fmt.Fprintf(&b, " net4 %s/%d", text(p.Net4.IP), p.Net4.Len)
		}
		if p.Net6.IP.V != 0 {
			fmt.Fprintf(&b, " net6 %s/%d", text(p.Net6.IP), p.Net6.Len)
		}
		b.WriteString("\n")
	}
	for _, r := range c.Routes {
		p, _ := addr.PrintPrefix(r.Prefix)
		fmt.Fprintf(&b, "route %s port %d", p, r.Port)
		if r.Via.V != 0 {
			b.WriteString(" via " + text(r.Via))
		}
		b.WriteString("\n")
	}
	s, _, _, _ := rules.Parse(c.Rules...)
	for _, l := range s.Lines() {
		b.WriteString("rule " + l + "\n")
	}
	n, f := c.Neigh, c.Flow
	fmt.Fprintf(&b, "neigh max %d line %d every %d tries %d fresh %d\nreasm contexts %d ticks %d\n", n.Max, n.Line, n.Every, n.Tries, n.Fresh, c.Contexts, c.Ticks)
	if c.Nat >= 0 {
		fmt.Fprintf(&b, "nat port %d outside %s ports %d %d max %d syn %d tcp %d fin %d udp %d icmp %d\n", c.Nat, text(f.Outside), f.Lo, f.Hi, f.Max, f.Syn, f.Tcp, f.Fin, f.Udp, f.Icmp)
	}
	for _, k := range c.Classes {
		if k.Rate == 0 {
			k.Burst = 0
		}
		fmt.Fprintf(&b, "class quantum %d items %d bytes %d rate %d burst %d\n", k.Quantum, k.Items, k.Bytes, k.Rate, k.Burst)
	}
	return b.String()
}

// 20.3, 20.4: what is printed is read as it was, but for the rules' lines and for such a burst; and is printed as the same.
func TestThereAndBack(t *testing.T) {
	for seed := range int64(500) {
		c := rolled(seed).config()
		text := printed(c)
		prints(t, c, text)
		s, _, _, _ := rules.Parse(c.Rules...)
		want := with(c, func(c *api.Config) {
			c.Rules = s.Lines()
			for i := range c.Classes {
				if c.Classes[i].Rate == 0 {
					c.Classes[i].Burst = 0
				}
			}
		})
		reads(t, text, want)
		prints(t, config(t, text), text)
		if t.Failed() {
			t.Fatalf("seed %d", seed)
		}
	}
}
