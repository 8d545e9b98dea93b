package desk

import (
	"slices"

	"weir/api"
)

// config is the configuration that the lines say.
func (s *sheet) config() api.Config {
	c := api.Config{Nat: -1}
	for _, l := range s[ofPort] {
		c.Ports = append(c.Ports, portOf(l))
	}
	for _, l := range s[ofRoute] {
		c.Routes = append(c.Routes, api.Route{Prefix: l[0].net, Port: l[1].number, Via: l[2].ip})
	}
	for _, l := range s[ofRule] {
		c.Rules = append(c.Rules, l[0].rule)
	}
	for _, l := range s[ofNeigh] {
		c.Neigh = api.NeighConfig{Max: l[0].number, Line: l[1].number, Every: l[2].number, Tries: l[3].number, Fresh: l[4].number}
	}
	for _, l := range s[ofReasm] {
		c.Contexts, c.Ticks = l[0].number, l[1].number
	}
	for _, l := range s[ofNat] {
		c.Nat, c.Flow = l[0].number, flowOf(l[1:])
	}
	for _, l := range s[ofClass] {
		c.Classes = append(c.Classes, api.Class{Quantum: l[0].number, Items: l[1].number, Bytes: l[2].number, Rate: l[3].number, Burst: l[4].number})
	}
	return c
}

func portOf(l []value) api.PortConfig {
	return api.PortConfig{
		Mac:  l[0].mac,
		MTU:  l[1].number,
		Vid:  l[2].number,
		Rx:   l[3].number,
		Tx:   l[4].number,
		Pool: l[5].number,
		Size: l[6].number,
		Net4: l[7].net,
		Net6: l[8].net,
	}
}

func flowOf(l []value) api.FlowConfig {
	return api.FlowConfig{
		Outside: l[0].ip,
		Lo:      l[1].number,
		Hi:      l[2].number,
		Max:     l[3].number,
		Syn:     l[4].number,
		Tcp:     l[5].number,
		Fin:     l[6].number,
		Udp:     l[7].number,
		Icmp:    l[8].number,
	}
}

// sheetOf is the way back: the lines that say a configuration.
func sheetOf(c api.Config) *sheet {
	var s sheet
	for _, p := range c.Ports {
		s[ofPort] = append(s[ofPort], portValues(p))
	}
	for _, r := range c.Routes {
		via := value{ip: r.Via, said: r.Via != (api.IP{})}
		s[ofRoute] = append(s[ofRoute], []value{{net: r.Prefix}, {number: r.Port}, via})
	}
	for _, line := range c.Rules {
		s[ofRule] = append(s[ofRule], []value{{rule: line}})
	}
	s[ofNeigh] = [][]value{numbers(c.Neigh.Max, c.Neigh.Line, c.Neigh.Every, c.Neigh.Tries, c.Neigh.Fresh)}
	s[ofReasm] = [][]value{numbers(c.Contexts, c.Ticks)}
	if c.Nat != -1 {
		s[ofNat] = [][]value{natValues(c.Nat, c.Flow)}
	}
	for _, k := range c.Classes {
		if k.Rate == 0 { // then nothing hangs on it, and it may be what no word says
			k.Burst = 0
		}
		s[ofClass] = append(s[ofClass], numbers(k.Quantum, k.Items, k.Bytes, k.Rate, k.Burst))
	}
	return &s
}

func portValues(p api.PortConfig) []value {
	return slices.Concat(
		[]value{{mac: p.Mac}},
		numbers(p.MTU, p.Vid, p.Rx, p.Tx, p.Pool, p.Size),
		[]value{netValue(p.Net4), netValue(p.Net6)},
	)
}

func netValue(n api.Prefix) value { return value{net: n, said: n != (api.Prefix{})} }

func natValues(port int, f api.FlowConfig) []value {
	return slices.Concat(
		[]value{{number: port}, {ip: f.Outside}},
		numbers(f.Lo, f.Hi, f.Max, f.Syn, f.Tcp, f.Fin, f.Udp, f.Icmp),
	)
}

func numbers(l ...int) []value {
	values := make([]value, len(l))
	for i, n := range l {
		values[i].number = n
	}
	return values
}
