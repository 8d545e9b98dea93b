package box

import (
	"weir/addr"
	"weir/api"
	"weir/flow"
	"weir/link"
	"weir/neigh"
	"weir/queue"
	"weir/reasm"
	"weir/ring"
	"weir/route"
	"weir/rules"
)

const maxVid = 4094

// parts add what a box is put together of, in the order in which the configuration is asked for it.
func (x *Box) parts() []func(api.Config) api.Errno {
	return []func(api.Config) api.Errno{x.addPorts, x.addRoutes, x.addRules, x.addNeighbours, x.addContexts, x.addFlows, x.addQueues}
}

func (x *Box) addPorts(c api.Config) api.Errno {
	if !within(len(c.Ports), 1, api.MaxPorts) {
		return api.ErrConfig
	}
	for i, s := range c.Ports {
		if !x.linkMayBe(s) {
			return api.ErrConfig
		}
		r, e := ring.New(s.Rx, s.Tx, s.Pool, s.Size)
		if e != api.OK {
			return e
		}
		if !x.netMayBe(s.Net4, 4, 32) || !x.netMayBe(s.Net6, 6, 128) {
			return api.ErrConfig
		}
		x.ports = append(x.ports, &port{Port: r, PortConfig: s, number: i})
	}
	return api.OK
}

// linkMayBe tells whether a port behind those that are there may have such a link.
func (x *Box) linkMayBe(s api.PortConfig) bool {
	for _, p := range x.ports {
		if p.Mac == s.Mac {
			return false
		}
	}
	return s.Mac != (api.Mac{}) && !link.Group(s.Mac) && within(s.MTU, api.MinMTU6, api.MaxMTU) && within(s.Vid, 0, maxVid)
}

// netMayBe tells whether a port behind those that are there may have such an own address of a version, or none.
func (x *Box) netMayBe(n api.Prefix, version, bits int) bool {
	if n == (api.Prefix{}) {
		return true
	}
	return n.IP.V == version && addr.Class(n.IP) == api.CUni && within(n.Len, 1, bits) && !x.isOwn(n.IP)
}

func (x *Box) addRoutes(c api.Config) api.Errno {
	x.routes = route.New()
	for _, p := range x.ports {
		for _, n := range [2]api.Prefix{p.Net4, p.Net6} {
			if e := x.addLinkRoute(p, n); e != api.OK {
				return e
			}
		}
	}
	for _, r := range c.Routes {
		if e := x.addRoute(r); e != api.OK {
			return e
		}
	}
	return api.OK
}

// addLinkRoute adds the route to those who share a port's link, if the port has an address there.
func (x *Box) addLinkRoute(p *port, n api.Prefix) api.Errno {
	if n == (api.Prefix{}) {
		return api.OK
	}
	return x.routes.Add(api.Route{Prefix: linkNet(n), Port: p.number})
}

// addRoute adds a route of the configuration. Its port must have an address with which to ask for who is there.
func (x *Box) addRoute(r api.Route) api.Errno {
	p := x.port(r.Port)
	if p == nil {
		return api.ErrPort
	}
	if !p.has(r.Prefix.IP.V) {
		return api.ErrConfig
	}
	return x.routes.Add(r)
}

func (x *Box) addRules(c api.Config) (e api.Errno) {
	x.rules, e, _, _ = rules.Parse(c.Rules...)
	return e
}

func (x *Box) addNeighbours(c api.Config) (e api.Errno) {
	x.neighs, e = neigh.New(c.Neigh)
	return e
}

func (x *Box) addContexts(c api.Config) (e api.Errno) {
	x.frags, e = reasm.New(c.Contexts, c.Ticks)
	return e
}

func (x *Box) addFlows(c api.Config) (e api.Errno) {
	x.nat, x.outside = c.Nat, c.Flow.Outside
	if c.Flow.Max == 0 {
		if c.Nat != -1 || c.Flow != (api.FlowConfig{}) {
			return api.ErrConfig
		}
		return api.OK
	}
	if x.flows, e = flow.New(c.Flow); e != api.OK {
		return e
	}
	p := x.port(c.Nat)
	if p == nil || !p.has(4) || x.isOwn(c.Flow.Outside) {
		return api.ErrConfig
	}
	return api.OK
}

func (x *Box) addQueues(c api.Config) (e api.Errno) {
	for _, p := range x.ports {
		if p.Queue, e = queue.New(c.Classes); e != api.OK {
			return e
		}
	}
	return api.OK
}

// linkNet is the net of an own address.
func linkNet(n api.Prefix) api.Prefix {
	ip, _ := addr.Mask(n.IP, n.Len) // it may be: the configuration was asked
	return api.Prefix{IP: ip, Len: n.Len}
}
