package desk_test

import (
	"fmt"
	"math/rand"
	"reflect"
	"slices"
	"strings"
	"testing"

	"weir/addr"
	"weir/api"
	"weir/box"
	"weir/desk"
	"weir/packet"
)

// whole is a canonical text with every kind of line, and with all that may be left out, there and left out.
const whole = `port 02:00:00:00:00:01 mtu 1500 vid 0 rx 8 tx 16 pool 32 size 2048 net4 10.0.0.1/24 net6 2001:db8::1/64
port 02:00:00:00:01:01 mtu 1280 vid 7 rx 4 tx 6 pool 20 size 1600 net4 192.0.2.1/24
port 0a:00:00:00:02:01 mtu 9000 vid 4094 rx 1 tx 2 pool 3 size 64 net6 2001:db8:1::1/128
port 02:00:00:00:03:0f mtu 1300 vid 1 rx 4096 tx 4095 pool 8192 size 65535
route 0.0.0.0/0 port 1 via 192.0.2.254
route 10.9.0.0/16 port 0
route 2001:db8:9::/48 port 0 via fe80::9
rule permit class 1 tcp from 10.0.0.0/8 to any port 80,443
rule permit any
neigh max 16 line 4 every 3 tries 2 fresh 90
reasm contexts 5 ticks 10
nat port 1 outside 192.0.2.9 ports 1000 1003 max 17 syn 4 tcp 9 fin 3 udp 5 icmp 2
class quantum 1500 items 64 bytes 1048576 rate 0 burst 0
class quantum 65 items 8 bytes 20000 rate 1000 burst 268435456
`

// wholeConfig is what the text says.
func wholeConfig() api.Config {
	return api.Config{
		Ports: []api.PortConfig{
			{Mac: api.Mac{2, 0, 0, 0, 0, 1}, MTU: 1500, Vid: 0, Rx: 8, Tx: 16, Pool: 32, Size: 2048, Net4: net("10.0.0.1/24"), Net6: net("2001:db8::1/64")},
			{Mac: api.Mac{2, 0, 0, 0, 1, 1}, MTU: 1280, Vid: 7, Rx: 4, Tx: 6, Pool: 20, Size: 1600, Net4: net("192.0.2.1/24")},
			{Mac: api.Mac{10, 0, 0, 0, 2, 1}, MTU: 9000, Vid: 4094, Rx: 1, Tx: 2, Pool: 3, Size: 64, Net6: net("2001:db8:1::1/128")},
			{Mac: api.Mac{2, 0, 0, 0, 3, 15}, MTU: 1300, Vid: 1, Rx: 4096, Tx: 4095, Pool: 8192, Size: 65535},
		},
		Routes: []api.Route{
			{Prefix: net("0.0.0.0/0"), Port: 1, Via: ip("192.0.2.254")},
			{Prefix: net("10.9.0.0/16"), Port: 0},
			{Prefix: net("2001:db8:9::/48"), Port: 0, Via: ip("fe80::9")},
		},
		Rules:    []string{"permit class 1 tcp from 10.0.0.0/8 to any port 80,443", "permit any"},
		Neigh:    api.NeighConfig{Max: 16, Line: 4, Every: 3, Tries: 2, Fresh: 90},
		Contexts: 5, Ticks: 10,
		Nat:  1,
		Flow: api.FlowConfig{Outside: ip("192.0.2.9"), Lo: 1000, Hi: 1003, Max: 17, Syn: 4, Tcp: 9, Fin: 3, Udp: 5, Icmp: 2},
		Classes: []api.Class{
			{Quantum: 1500, Items: 64, Bytes: 1048576},
			{Quantum: 65, Items: 8, Bytes: 20000, Rate: 1000, Burst: 268435456},
		},
	}
}

// wholeLines are the lines of the text.
func wholeLines() []string { return strings.Split(strings.TrimSuffix(whole, "\n"), "\n") }

// least is a text with no more lines than must be.
const least = `port 02:00:00:00:00:01 mtu 1500 vid 0 rx 8 tx 8 pool 32 size 2048
neigh max 1 line 1 every 1 tries 1 fresh 1
reasm contexts 1 ticks 1
class quantum 64 items 1 bytes 1 rate 0 burst 0
`

func ip(text string) api.IP {
	x, e, _ := addr.ParseIP(text)
	if e != api.OK {
		panic(text)
	}
	return x
}

// net is an address with the length of its net.
func net(text string) api.Prefix {
	head, tail, _ := strings.Cut(text, "/")
	p := api.Prefix{IP: ip(head)}
	fmt.Sscan(tail, &p.Len)
	return p
}

// plain is a configuration whose lists without an element are nil.
func plain(c api.Config) api.Config {
	if len(c.Ports) == 0 {
		c.Ports = nil
	}
	if len(c.Routes) == 0 {
		c.Routes = nil
	}
	if len(c.Rules) == 0 {
		c.Rules = nil
	}
	if len(c.Classes) == 0 {
		c.Classes = nil
	}
	return c
}

func same(a, b api.Config) bool { return reflect.DeepEqual(plain(a), plain(b)) }

func short(text string) string {
	if len(text) > 300 {
		return fmt.Sprintf("%.300q.. (%d bytes)", text, len(text))
	}
	return fmt.Sprintf("%q", text)
}

func reads(t *testing.T, text string, want api.Config) {
	t.Helper()
	if c, e, line, place := desk.Config(text); e != api.OK || line != 0 || place != 0 || !same(c, want) {
		t.Errorf("Config(%s) = %+v, %d, %d, %d\nwant %+v", short(text), c, e, line, place, want)
	}
}

func refuses(t *testing.T, text string, want api.Errno, line, place int) {
	t.Helper()
	if c, e, l, p := desk.Config(text); e != want || l != line || p != place || !same(c, api.Config{}) {
		t.Errorf("Config(%s) = %+v, %d, %d, %d; want %d, %d, %d", short(text), c, e, l, p, want, line, place)
	}
}

// config is the configuration of a text that is one.
func config(t *testing.T, text string) api.Config {
	t.Helper()
	c, e, line, place := desk.Config(text)
	if e != api.OK {
		t.Fatalf("Config(%s): %d, %d, %d", short(text), e, line, place)
	}
	return c
}

func prints(t *testing.T, c api.Config, want string) {
	t.Helper()
	if text, e := desk.PrintConfig(c); e != api.OK || text != want {
		t.Errorf("PrintConfig(%+v) = %d,\n%s\nwant\n%s", c, e, text, want)
	}
}

func printsNot(t *testing.T, c api.Config, want api.Errno) {
	t.Helper()
	if text, e := desk.PrintConfig(c); e != want || text != "" {
		t.Errorf("PrintConfig = %s, %d, want %d", short(text), e, want)
	}
}

func made(t *testing.T, text string) *desk.Desk {
	t.Helper()
	d, e := desk.New(config(t, text))
	if d == nil || e != api.OK {
		t.Fatalf("New = %v, %d", d, e)
	}
	return d
}

// does wants lines to have answers: a line, its answer, and so on.
func does(t *testing.T, d *desk.Desk, l ...string) {
	t.Helper()
	for i := 0; i < len(l); i += 2 {
		if got := d.Do(l[i]); got != l[i+1] {
			t.Errorf("Do(%s) = %s\nwant %s", short(l[i]), short(got), short(l[i+1]))
		}
	}
}

// with is a configuration that was turned; that which was handed in stays as it is.
func with(c api.Config, turn func(*api.Config)) api.Config {
	c.Ports, c.Routes, c.Rules, c.Classes = slices.Clone(c.Ports), slices.Clone(c.Routes), slices.Clone(c.Rules), slices.Clone(c.Classes)
	turn(&c)
	return c
}

// dice draws texts, configurations and scripts.
type dice struct{ *rand.Rand }

func rolled(seed int64) dice { return dice{rand.New(rand.NewSource(seed))} }

func pick[T any](d dice, l ...T) T { return l[d.Intn(len(l))] }

func (d dice) once(n int) bool { return d.Intn(n) == 0 }

// port is one that may stand at a place of the list.
func (d dice) port(n int) api.PortConfig {
	p := api.PortConfig{
		Mac: api.Mac{byte(d.Intn(128)) * 2, byte(d.Intn(256)), 0, 0, 0xab, byte(n + 1)}, MTU: pick(d, 1280, 1500, 9000), Vid: pick(d, 0, 1, 7, 4094),
		Rx: pick(d, 1, 8, 4096), Tx: pick(d, 1, 8, 4096), Pool: pick(d, 1, 16, 8192), Size: pick(d, 64, 2048, 65535),
	}
	if !d.once(3) {
		p.Net4 = api.Prefix{IP: api.IP{V: 4, A: [16]byte{10, byte(n), byte(d.Intn(256)), byte(d.Intn(256))}}, Len: 16 + d.Intn(17)}
	}
	if !d.once(3) {
		p.Net6 = api.Prefix{IP: api.IP{V: 6, A: [16]byte{0x20, 1, 0, byte(n), byte(d.Intn(2)), byte(d.Intn(2)), 15: byte(d.Intn(256))}}, Len: 32 + d.Intn(97)}
	}
	return p
}

// routes are some that may be added behind those of the ports' links.
func (d dice) routes(ports []api.PortConfig) []api.Route {
	var l []api.Route
	for range d.Intn(5) {
		port := d.Intn(len(ports))
		r := api.Route{Port: port}
		switch {
		case d.once(2) && ports[port].Net4.Len > 0:
			r.Prefix, _, _ = addr.ParsePrefix(pick(d, "0.0.0.0/0", "20.0.0.0/8", "30.1.0.0/16", "40.1.1.1/32"))
			r.Via = pick(d, api.IP{}, ip("10.0.0.77"), ip("169.254.0.1"))
		case ports[port].Net6.Len > 0:
			r.Prefix, _, _ = addr.ParsePrefix(pick(d, "::/0", "3001:db8::/32", "::ffff:1.2.3.0/120", "4000::1/128"))
			r.Via = pick(d, api.IP{}, ip("2001:db8::77"), ip("fe80::1"))
		default:
			continue
		}
		if !slices.ContainsFunc(l, func(x api.Route) bool { return x.Prefix == r.Prefix }) {
			l = append(l, r)
		}
	}
	return l
}

// config is one that box.Check takes.
func (d dice) config() api.Config {
	c := api.Config{
		Neigh:    api.NeighConfig{Max: pick(d, 1, 16, 1024), Line: pick(d, 1, 64), Every: pick(d, 1, 1<<20), Tries: pick(d, 1, 16), Fresh: pick(d, 1, 9, 1<<20)},
		Contexts: pick(d, 1, 4, 256), Ticks: pick(d, 1, 10, 1<<20), Nat: -1,
	}
	for n := range 1 + d.Intn(8) {
		c.Ports = append(c.Ports, d.port(n))
	}
	c.Routes = d.routes(c.Ports)
	for range d.Intn(5) {
		c.Rules = append(c.Rules, pick(d, "permit any", "  deny\tip4   from 10.0.0.0/8 , 20.0.0.0/32", "# a remark", "", " \t", "reject ip6 icmp6 type 128", "permit class 0 proto 6 to any port 80-80 flags !ack , syn"))
	}
	for range 1 + d.Intn(8) {
		k := api.Class{Quantum: pick(d, 64, 1500, 65535), Items: pick(d, 1, 64, 4096), Bytes: pick(d, 1, 1<<26), Burst: pick(d, 0, 5, -7, 1<<40)}
		if d.once(2) {
			k.Rate, k.Burst = pick(d, 1, 1<<26), pick(d, 65535, 1<<28)
		}
		c.Classes = append(c.Classes, k)
	}
	if nat := d.Intn(len(c.Ports)); d.once(2) && c.Ports[nat].Net4.Len > 0 {
		c.Nat = nat
		c.Flow = api.FlowConfig{Max: pick(d, 1, 4096), Outside: pick(d, ip("192.0.2.9"), ip("169.254.3.4")), Lo: pick(d, 1, 1000), Hi: pick(d, 1000, 65535), Syn: 1, Tcp: 1 << 20, Fin: 3, Udp: 4, Icmp: 5}
	}
	if e := box.Check(c); e != api.OK {
		panic(fmt.Sprintf("drawn is a configuration that may not be: %d of %+v", e, c))
	}
	return c
}

// framed is the canonical frame of a packet.
func framed(dst, src api.Mac, p api.Packet) []byte {
	p.Dst, p.Src = dst, src
	b, e := packet.Serialise(p)
	if e != api.OK {
		panic(e)
	}
	return b
}
