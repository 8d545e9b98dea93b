package desk_test

import (
	"encoding/hex"
	"fmt"
	"strings"
	"testing"

	"weir/addr"
	"weir/api"
	"weir/box"
	"weir/desk"
	"weir/packet"
)

var (
	port0   = api.Mac{2, 0, 0, 0, 0, 1}
	port1   = api.Mac{2, 0, 0, 0, 1, 1}
	hostA   = api.Mac{2, 9, 9, 9, 9, 0xa}
	gateway = api.Mac{2, 9, 9, 9, 9, 0xf}
	all     = api.Mac{0xff, 0xff, 0xff, 0xff, 0xff, 0xff}
)

func arp(dst, src api.Mac, op int, sip string, tip string, tags ...api.Tag) []byte {
	return framed(dst, src, api.Packet{Tags: tags, Kind: api.PArp, Arp: api.Arp{Op: op, SMac: src, SIP: ip(sip), TMac: dst, TIP: ip(tip)}})
}

func udp(dst, src api.Mac, from, to string, n int) []byte {
	return framed(dst, src, api.Packet{Kind: api.PIp4, Ip4: api.Ip4{ID: 7, TTL: 64, Proto: 17, Src: ip(from), Dst: ip(to)}, L4: api.LUdp, Udp: api.Udp{Sport: 5000, Dport: 53, Data: make([]byte, n)}})
}

func tcp(dst, src api.Mac, from, to string, flags int) []byte {
	return framed(dst, src, api.Packet{Kind: api.PIp4, Ip4: api.Ip4{ID: 7, TTL: 64, Proto: 6, Src: ip(from), Dst: ip(to)}, L4: api.LTcp, Tcp: api.Tcp{Sport: 1002, Dport: 80, Flags: flags}})
}

func echo6(dst, src api.Mac, from, to string) []byte {
	return framed(dst, src, api.Packet{Kind: api.PIp6, Ip6: api.Ip6{Hop: 9, Next: 58, Src: ip(from), Dst: ip(to)}, L4: api.LIcmp, Icmp: api.Icmp{V: 6, Type: 128, Rest: 5}})
}

// 20.5: what each line does, and how its answer is written.
func TestScript(t *testing.T) {
	d := made(t, whole)
	seven := api.Tag{TPID: 0x8100, VID: 7}
	ask, gram, far := fmt.Sprintf("%x", arp(all, hostA, 1, "10.0.0.2", "10.0.0.1")), udp(port0, hostA, "10.0.0.2", "198.51.100.7", 3), arp(port1, gateway, 2, "192.0.2.254", "192.0.2.1", seven)
	answer := fmt.Sprintf("%x", arp(hostA, port0, 2, "10.0.0.1", "10.0.0.2"))
	does(t, d,
		"capture", "5745495243415031", "flows", "0", "neighbours", "0", "kept", "rx 0 frags 0 waiting 0 queued 0 tx 0", "counts", "in 0 out 0 used 0 made 0",
		"arrive 0 -", "error 31", "arrive 4 -", "error 1", "refill 4 1", "0", "drain 4", "none", "drain 0", "none",
		"refill 0 3", "3", "refill 0 0", "0", "refill 0 268435456", "5", "arrive 0 -", "ok", "arrive 0 "+ask, "ok",
		"kept", "rx 2 frags 0 waiting 0 queued 0 tx 0", "poll 0", "0", "poll 1", "1", "counts", "in 3 out 0 used 0 made 0 31:1 50:1", "poll 9", "1",
		"neighbours", "1 0,10.0.0.2,02:09:09:09:09:0a,3,0", "kept", "rx 0 frags 0 waiting 0 queued 0 tx 1", "drain 0", answer,
		"counts", "in 3 out 1 used 1 made 1 31:1 50:1", "tick", "ok",
		fmt.Sprintf("arrive 0 %x", gram), "ok", fmt.Sprintf("arrive 0 %x", tcp(port0, hostA, "10.0.0.2", "198.51.100.7", 2)), "ok", "poll 2", "2",
		"neighbours", "2 0,10.0.0.2,02:09:09:09:09:0a,3,0 1,192.0.2.254,00:00:00:00:00:00,1,2",
		"flows", "2 6,10.0.0.2,1002,198.51.100.7,80,1002,1,4 17,10.0.0.2,5000,198.51.100.7,53,1000,7,5",
		"tick 2", "ok", "flows", "2 6,10.0.0.2,1002,198.51.100.7,80,1002,1,2 17,10.0.0.2,5000,198.51.100.7,53,1000,7,3",
		"kept", "rx 0 frags 0 waiting 2 queued 0 tx 1", "refill 1 1", "1", fmt.Sprintf("arrive 1 %x", far), "ok", "poll 1", "1",
		"neighbours", "2 0,10.0.0.2,02:09:09:09:09:0a,3,0 1,192.0.2.254,02:09:09:09:09:0f,2,0",
		"kept", "rx 0 frags 0 waiting 0 queued 0 tx 3",
		"drain 1", fmt.Sprintf("%x", framed(all, port1, api.Packet{Tags: []api.Tag{seven}, Kind: api.PArp, Arp: api.Arp{Op: 1, SMac: port1, SIP: ip("192.0.2.1"), TIP: ip("192.0.2.254")}})),
		fmt.Sprintf("arrive 0 %x", echo6(port0, hostA, "2001:db8::2", "2001:db8::1")), "ok", "poll 1", "1",
		"neighbours", "3 0,10.0.0.2,02:09:09:09:09:0a,3,0 0,2001:db8::2,00:00:00:00:00:00,1,1 1,192.0.2.254,02:09:09:09:09:0f,2,0",
		"tick 1000", "ok", "flows", "0", "neighbours", "2 0,10.0.0.2,02:09:09:09:09:0a,3,0 1,192.0.2.254,02:09:09:09:09:0f,3,0",
		"counts", "in 7 out 2 used 3 made 5 31:1 50:1 153:1",
	)
}

// 20.5: a frame that was taken or told is in the capture, with the ticks so far; one that was refused is not, nor is what normal reads.
func TestCapture(t *testing.T) {
	d := made(t, whole)
	ask, answer := arp(all, hostA, 1, "10.0.0.2", "10.0.0.1"), arp(hostA, port0, 2, "10.0.0.1", "10.0.0.2")
	in := fmt.Sprintf("arrive 0 %x", ask)
	does(t, d, in, "error 31", "refill 0 8", "8", "tick 0", "ok", in, "ok", "tick", "ok", "tick 1001", "error 201", "tick 999", "ok", "poll 1", "1", "arrive 0 -", "ok", fmt.Sprintf("normal %x", ask), fmt.Sprintf("%x", ask), "drain 1", "none")
	want := fmt.Sprintf("%x0000000000000%03x%x000003e800000000", "WEIRCAP1", len(ask), ask)
	does(t, d, "capture", want, "drain 0", fmt.Sprintf("%x", answer), "drain 0", "none")
	want += fmt.Sprintf("000003e800010%03x%x", len(answer), answer)
	does(t, d, "capture", want, "tick 2", "ok", "refill 1 1", "1", "arrive 1 ff", "ok", "arrive 1 ff", "error 31", "arrive 9 ff", "error 1")
	does(t, d, "capture", want+"000003ea01000001ff", "capture", want+"000003ea01000001ff")
	does(t, made(t, whole), "capture", "5745495243415031")
}

// 20.5: normal tells a frame's canonical form.
func TestNormal(t *testing.T) {
	d := made(t, least)
	b := arp(all, hostA, 1, "10.0.0.2", "10.0.0.1")
	does(t, d, fmt.Sprintf("normal %x", b[:42]), fmt.Sprintf("%x", b), "normal -", "error 50", "normal 00", "error 50", fmt.Sprintf("normal %xff", b), fmt.Sprintf("%x", b), "counts", "in 0 out 0 used 0 made 0")
	does(t, d, "normal "+strings.Repeat("00", 65536), "error 2")
}

// 20.5: a line without words has the empty answer; one that is no command, or not of its form, changes nothing.
func TestNotOfTheForm(t *testing.T) {
	d := made(t, whole)
	does(t, d, "refill 0 1", "1", "arrive 0 00", "ok")
	for _, line := range []string{
		"x", "Counts", "count", "countss", "port", "-", "0", "\xff", "\n", "counts\n", "counts\r",
		"arrive", "arrive 0", "arrive 0 00 00", "arrive 0 0", "arrive 0 000", "arrive 0 0A", "arrive 0 0g", "arrive 0 g0", "arrive 0 --", "arrive 0 0x00", "arrive 0 -00", "arrive 0 0- ", "arrive - 0", "arrive -1 00", "arrive 01 00", "arrive 268435457 00", "arrive 0 \xff\xff", "arrive 0 é", "arrive 0 0 0", "arrive 00",
		"refill", "refill 0", "refill 0 1 1", "refill 0 x", "refill 0 -1", "refill x 0", "refill 0 268435457", "refill 1,1",
		"poll", "poll 1 1", "poll x", "poll -1", "poll 01", "tick x", "tick 1001", "tick 1000000", "tick 268435457", "tick 1 1", "tick -1", "tick 01", "tick -",
		"drain", "drain 0 0", "drain x", "drain -1", "counts 1", "counts counts", "kept 0", "neighbours 0", "flows x", "normal", "normal 0", "normal 00 00", "normal AA", "normal 0 0", "capture 0", "capture -",
	} {
		does(t, d, line, "error 201")
	}
	for _, line := range []string{"", " ", "\t", " \t  ", "#", " # counts", "#counts", "#\n"} {
		does(t, d, line, "")
	}
	does(t, d, "counts", "in 1 out 0 used 0 made 0", "kept", "rx 1 frags 0 waiting 0 queued 0 tx 0", "capture", "5745495243415031"+"0000000000000001"+"00")
	does(t, d, " \t poll\t\t7  #", "1", "\tcounts\t", "in 1 out 0 used 0 made 0 50:1", "  kept  # kept", "rx 0 frags 0 waiting 0 queued 0 tx 0")
}

// 20.5: a line has at most 2^20 bytes, whatever they are.
func TestLongLines(t *testing.T) {
	d := made(t, whole)
	fill := func(line string, n int) string { return line + strings.Repeat(" ", n-len(line)) }
	does(t, d, fill("", 1<<20), "", fill("", 1<<20+1), "error 200", fill("#", 1<<20), "", fill("#", 1<<20+1), "error 200", fill("flows", 1<<20), "0", fill("flows", 1<<20+1), "error 200", fill("x", 1<<20+1), "error 200", strings.Repeat("x", 1<<20), "error 201")
	does(t, d, "refill 0 1", "1", fill("arrive 0 00", 1<<20+1), "error 200", "kept", "rx 0 frags 0 waiting 0 queued 0 tx 0")
	does(t, d, "arrive 0 "+strings.Repeat("00", 2048), "ok", "arrive 0 "+strings.Repeat("00", 2049), "error 30", "arrive 0 "+strings.Repeat("00", 65536), "error 2", "arrive 0 "+strings.Repeat("ab", 1<<19-5), "error 2")
}

// player is a second reading of 20.5: it plays a line on a box of its own.
type player struct {
	*box.Box
	ticks   int
	capture []byte
}

func (p *player) saw(port, out int, b []byte) {
	p.capture = fmt.Appendf(p.capture, "%08x%02x%02x%04x%x", p.ticks, port, out, len(b), b)
}

func (p *player) do(line string) string {
	var port, n int
	var text string
	bytes := func() []byte { b, _ := hex.DecodeString(strings.Trim(text, "-")); return b }
	told := func(b []byte) string {
		if len(b) == 0 {
			return "-"
		}
		return hex.EncodeToString(b)
	}
	switch word, _, _ := strings.Cut(line, " "); word {
	case "arrive":
		fmt.Sscanf(line, "arrive %d %s", &port, &text)
		if e := p.Arrive(port, bytes()); e != api.OK {
			return fmt.Sprintf("error %d", int(e))
		}
		p.saw(port, 0, bytes())
	case "refill":
		fmt.Sscanf(line, "refill %d %d", &port, &n)
		return fmt.Sprint(p.Refill(port, n))
	case "poll":
		fmt.Sscanf(line, "poll %d", &n)
		return fmt.Sprint(p.Poll(n))
	case "tick":
		n = 1
		fmt.Sscanf(line, "tick %d", &n)
		for range n {
			p.Tick()
			p.ticks++
		}
	case "drain":
		fmt.Sscanf(line, "drain %d", &port)
		b, ok := p.Drain(port)
		if !ok {
			return "none"
		}
		p.saw(port, 1, b)
		return told(b)
	case "counts":
		c := p.Counts()
		text = fmt.Sprintf("in %d out %d used %d made %d", c.In, c.Out, c.Used, c.Made)
		for _, d := range c.Drops {
			text += fmt.Sprintf(" %d:%d", int(d.Reason), d.N)
		}
		return text
	case "kept":
		k := p.Kept()
		return fmt.Sprintf("rx %d frags %d waiting %d queued %d tx %d", k.Rx, k.Frags, k.Waiting, k.Queued, k.Tx)
	case "neighbours":
		l := p.Neighbours()
		text = fmt.Sprint(len(l))
		for _, n := range l {
			a, _ := addr.PrintIP(n.IP)
			text += fmt.Sprintf(" %d,%s,%s,%d,%d", n.Port, a, addr.PrintMac(n.Mac), n.State, n.Waiting)
		}
		return text
	case "flows":
		l := p.Flows()
		text = fmt.Sprint(len(l))
		for _, f := range l {
			a, _ := addr.PrintIP(f.Tuple.Src)
			b, _ := addr.PrintIP(f.Tuple.Dst)
			text += fmt.Sprintf(" %d,%s,%d,%s,%d,%d,%d,%d", f.Tuple.Proto, a, f.Tuple.Sport, b, f.Tuple.Dport, f.Port, f.State, f.Left)
		}
		return text
	case "normal":
		fmt.Sscanf(line, "normal %s", &text)
		b, e := packet.Normal(bytes())
		if e != api.OK {
			return fmt.Sprintf("error %d", int(e))
		}
		return told(b)
	case "capture":
		return hex.EncodeToString([]byte("WEIRCAP1")) + string(p.capture)
	}
	return "ok"
}

// frame is one that has the box of the whole text do something, mostly.
func (d dice) frame() []byte {
	seven := api.Tag{TPID: 0x8100, VID: 7}
	b := pick(d,
		arp(all, hostA, 1, "10.0.0.2", "10.0.0.1"), arp(port0, hostA, 2, "10.0.0.2", "10.0.0.1"), arp(port1, gateway, 2, "192.0.2.254", "192.0.2.1", seven), arp(port1, gateway, 1, "192.0.2.254", "192.0.2.9", seven),
		udp(port0, hostA, "10.0.0.2", "198.51.100.7", d.Intn(1400)), udp(port0, hostA, "10.0.0.3", "10.9.9.9", d.Intn(40)), udp(port0, hostA, "10.0.0.4", "198.51.100.8", 1),
		tcp(port0, hostA, "10.0.0.2", "198.51.100.7", pick(d, 2, 4, 16, 17)), tcp(port0, hostA, "10.0.0.5", "198.51.100.7", 2),
		echo6(port0, hostA, "2001:db8::2", "2001:db8::1"), echo6(port0, hostA, "2001:db8::3", "2001:db8:9::1"), nil)
	if d.once(10) && len(b) > 0 {
		b[d.Intn(len(b))] ^= 1 << d.Intn(8)
	}
	return b
}

// line is one of the script, of its form.
func (d dice) line() string {
	bytes := "-"
	if b := d.frame(); len(b) > 0 {
		bytes = hex.EncodeToString(b)
	}
	port := pick(d, 0, 0, 0, 1, 1, 1, 2, 3, 4, 268435456)
	switch d.Intn(16) {
	case 0, 1:
		return fmt.Sprintf("refill %d %d", port, pick(d, 0, 1, 4, 268435456))
	case 2, 3, 4, 5, 6:
		return fmt.Sprintf("arrive %d %s", port, bytes)
	case 7, 8:
		return fmt.Sprintf("poll %d", pick(d, 0, 1, 2, 9))
	case 9:
		return pick(d, "tick", "tick", "tick 0", "tick 1", "tick 2", "tick 7", "tick 100")
	case 10, 11, 12:
		return fmt.Sprintf("drain %d", port)
	case 13:
		return "normal " + bytes
	}
	return pick(d, "counts", "kept", "neighbours", "flows", "flows", "capture")
}

// 20.5, W1: whatever a script says, the desk answers what a box does that is called so.
func TestAgainstThePlayer(t *testing.T) {
	begun, longest := 0, 0
	for seed := range int64(150) {
		r := rolled(seed)
		d := made(t, whole)
		x, _ := box.New(wholeConfig())
		p := &player{Box: x}
		for range 300 {
			line := r.line()
			got, want := d.Do(line), p.do(line)
			if got != want {
				t.Fatalf("Do(%s) = %s\nwant %s", short(line), short(got), short(want))
			}
			if strings.HasPrefix(line, "flows") && got != "0" {
				begun++
			}
			if line == "capture" {
				longest = max(longest, len(got))
			}
		}
		does(t, d, "capture", p.do("capture"), "counts", p.do("counts"))
	}
	if begun < 100 || longest < 10000 {
		t.Errorf("the drawn scripts say little: %d times there were flows, the longest capture has %d digits", begun, longest)
	}
}

// 20.6: Run plays the lines of a script, each with its answer and a newline.
func TestRun(t *testing.T) {
	runs := func(script, want string) {
		t.Helper()
		if got, e := desk.Run(whole, script); e != api.OK || got != want {
			t.Errorf("Run(.., %s) = %s, %d\nwant %s", short(script), short(got), e, short(want))
		}
	}
	runs("", "")
	runs("\n", "\n")
	runs("flows", "0\n")
	runs("flows\n", "0\n")
	runs("flows\n\n", "0\n\n")
	runs("\n# x\n x\nrefill 0 3\nrefill 0 9\n\tpoll 1", "\n\nerror 201\n3\n5\n0\n")
	runs("flows\r\n", "error 201\n")
	runs(strings.Repeat("refill 0 1\n", 9), strings.Repeat("1\n", 8)+"0\n")
	runs(strings.Repeat("refill 0 1\n", 9), strings.Repeat("1\n", 8)+"0\n") // each run has a desk of its own
	for seed := range int64(20) {
		r, d := rolled(seed), made(t, whole)
		var script, want strings.Builder
		for range 200 {
			line := pick(r, r.line(), r.line(), r.line(), "", "# x", "x", "tick x")
			script.WriteString(line + "\n")
			want.WriteString(d.Do(line) + "\n")
		}
		runs(script.String(), want.String())
	}
}

// 20.6: the script's bounds are asked first, then the configuration.
func TestRunRefuses(t *testing.T) {
	refused := func(config, script string, want api.Errno) {
		t.Helper()
		if got, e := desk.Run(config, script); e != want || got != "" {
			t.Errorf("Run(%s, %s) = %s, %d, want %d", short(config), short(script), short(got), e, want)
		}
	}
	lines := strings.Repeat("\n", 512)
	refused("", lines+"\n", api.ErrDesk)
	refused("x", lines+"#", api.ErrDesk)
	refused(whole, lines+" ", api.ErrDesk)
	refused(whole, strings.Repeat(" ", 1<<20+1), api.ErrDesk)
	refused(lines+"\n", "", api.ErrDesk)
	refused("", lines, api.ErrLacks)
	refused("", "", api.ErrLacks)
	refused("x", "flows", api.ErrDeskLine)
	refused(whole+"nat", "flows", api.ErrTwice)
	refused(whole+"rule permit", "flows", api.ErrRuleEnd)
	refused(strings.Replace(whole, "mtu 1500", "mtu 1", 1), "flows", api.ErrConfig)
	if got, e := desk.Run(whole, lines); e != api.OK || got != lines {
		t.Errorf("Run = %s, %d", short(got), e)
	}
	if got, e := desk.Run(whole, strings.Repeat(" ", 1<<20)); e != api.OK || got != "\n" {
		t.Errorf("Run = %s, %d", short(got), e)
	}
}

// 20.7: New refuses what box.New refuses.
func TestNew(t *testing.T) {
	for _, turn := range []func(*api.Config){
		func(c *api.Config) { *c = api.Config{} }, func(c *api.Config) { c.Ports[0].MTU = 1 }, func(c *api.Config) { c.Ports[0].Rx = 0 }, func(c *api.Config) { c.Neigh.Max = 0 },
		func(c *api.Config) { c.Rules = []string{"x"} }, func(c *api.Config) { c.Flow.Max = 0 }, func(c *api.Config) { c.Classes = nil }, func(c *api.Config) { c.Routes[0].Port = 9 },
	} {
		c := with(wholeConfig(), turn)
		_, want := box.New(c)
		if d, e := desk.New(c); d != nil || e != want || e == api.OK {
			t.Errorf("New(%+v) = %v, %d, want %d", c, d, e, want)
		}
	}
	d, e := desk.New(with(wholeConfig(), func(c *api.Config) { c.Rules = []string{swelling(t)} }))
	if d == nil || e != api.OK {
		t.Fatalf("New = %v, %d", d, e)
	}
	does(t, d, "refill 0 1", "1")
}
