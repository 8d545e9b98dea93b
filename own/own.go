// Package own has datagrams and packets in memory of their own: for what outlives the call that brings it, and for answers
// that share no memory with what was handed in.
package own

import (
	"bytes"

	"weir/api"
)

// Four is h with lists of its own.
func Four(h api.Ip4) api.Ip4 {
	h.Opts, h.Data = opts(h.Opts), bytes.Clone(h.Data)
	return h
}

// Six is h with lists of its own.
func Six(h api.Ip6) api.Ip6 {
	h.Exts, h.Data = append([]api.Ext(nil), h.Exts...), bytes.Clone(h.Data)
	for i, x := range h.Exts {
		h.Exts[i].Opts, h.Exts[i].Data = opts(x.Opts), bytes.Clone(x.Data)
	}
	return h
}

// Packet is p with lists of its own.
func Packet(p api.Packet) api.Packet {
	p.Tags = append([]api.Tag(nil), p.Tags...)
	p.Ip4, p.Ip6 = Four(p.Ip4), Six(p.Ip6)
	p.Icmp.Data, p.Udp.Data = bytes.Clone(p.Icmp.Data), bytes.Clone(p.Udp.Data)
	p.Tcp.Opts, p.Tcp.Data = opts(p.Tcp.Opts), bytes.Clone(p.Tcp.Data)
	return p
}

func opts(l []api.Opt) []api.Opt {
	l = append([]api.Opt(nil), l...)
	for i, o := range l {
		l[i].Data = bytes.Clone(o.Data)
	}
	return l
}
