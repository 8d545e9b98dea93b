package icmp

import (
	"weir/addr"
	"weir/api"
	"weir/ip4"
	"weir/ip6"
	"weir/view"
)

// Types of messages that tell of trouble.
const (
	unreachable4 = 3
	quench4      = 4
	redirect4    = 5
	exceeded4    = 11
	parameter4   = 12
	unreachable6 = 1
	tooBig6      = 2
	exceeded6    = 3
	parameter6   = 4
	firstQuery6  = 128 // all below it tell of trouble
	redirect6    = 137
)

// How many bytes of a datagram in trouble are told: the message, behind a bare header, is to go over every link whole.
const (
	told4 = 576 - 20 - headSize
	told6 = api.MinMTU6 - 40 - headSize
)

// telling says how one trouble is told in one version: the message's Type and Code, the greatest Extra that the trouble
// may have, and by how many bits Extra stands above the lowest of Rest.
type telling struct{ trouble, version, kind, code, most, shift int }

var tellings = [14]telling{
	{api.TNoRoute, four, unreachable4, 0, 0, 0},
	{api.TNoHost, four, unreachable4, 1, 0, 0},
	{api.TAdmin, four, unreachable4, 13, 0, 0},
	{api.TTooBig, four, unreachable4, 4, maxWord, 0},
	{api.THops, four, exceeded4, 0, 0, 0},
	{api.TFrags, four, exceeded4, 1, 0, 0},
	{api.TParam, four, parameter4, 0, maxByte, 24},
	{api.TNoRoute, six, unreachable6, 0, 0, 0},
	{api.TNoHost, six, unreachable6, 3, 0, 0},
	{api.TAdmin, six, unreachable6, 1, 0, 0},
	{api.TTooBig, six, tooBig6, 0, maxWord, 0},
	{api.THops, six, exceeded6, 0, 0, 0},
	{api.TFrags, six, exceeded6, 1, 0, 0},
	{api.TParam, six, parameter6, 0, maxWord, 0},
}

// Complain4 is the message about an IPv4 packet in trouble; false: there is none.
func Complain4(t api.Trouble, orig api.Ip4) (api.Icmp, bool) {
	m, ok := tell(four, t)
	if !ok || orig.Off > 0 || isComplaint4(orig) || !isOne4(orig.Dst) || !isSender(orig.Src) {
		return api.Icmp{}, false
	}
	b, e := ip4.Serialise(orig)
	if e != api.OK {
		return api.Icmp{}, false
	}
	m.Data = begin(b, told4)
	return m, true
}

// Complain6 is the message about an IPv6 packet in trouble; false: there is none.
func Complain6(t api.Trouble, orig api.Ip6) (api.Icmp, bool) {
	m, ok := tell(six, t)
	if !ok || orig.Frag.Has && orig.Frag.Off > 0 || isComplaint6(orig) || !isSender(orig.Src) {
		return api.Icmp{}, false
	}
	if addr.Class(orig.Dst) == api.CMulti && t.Kind != api.TTooBig { // what goes to a group may seek its MTU all the same
		return api.Icmp{}, false
	}
	b, e := ip6.Serialise(orig)
	if e != api.OK {
		return api.Icmp{}, false
	}
	m.Data = begin(b, told6)
	return m, true
}

// tell is the message of a trouble, without its Data; false: it is no trouble.
func tell(v int, t api.Trouble) (api.Icmp, bool) {
	for _, s := range tellings {
		if s.version == v && s.trouble == t.Kind && within(t.Extra, s.most) {
			return api.Icmp{V: v, Type: s.kind, Code: s.code, Rest: t.Extra << s.shift}, true
		}
	}
	return api.Icmp{}, false
}

// isComplaint4 tells whether a datagram tells of trouble itself.
func isComplaint4(h api.Ip4) bool {
	if h.Proto != proto4 || len(h.Data) == 0 {
		return false
	}
	switch h.Data[0] {
	case unreachable4, quench4, redirect4, exceeded4, parameter4:
		return true
	}
	return false
}

// isComplaint6 tells whether a datagram tells of trouble itself, or of a better way.
func isComplaint6(h api.Ip6) bool {
	return h.Next == proto6 && len(h.Data) > 0 && (h.Data[0] < firstQuery6 || h.Data[0] == redirect6)
}

// isOne4 tells whether an address is not that of many.
func isOne4(a api.IP) bool {
	switch addr.Class(a) {
	case api.CUni, api.CLocal, api.CLoop, api.CZero, api.CReserved:
		return true
	}
	return false
}

// isSender tells whether an address is that of somebody who can be told.
func isSender(a api.IP) bool {
	class := addr.Class(a)
	return class == api.CUni || class == api.CLocal
}

// begin is b, but no more than so many bytes of it.
func begin(b []byte, most int) []byte {
	w, _ := view.Window(b, 0, min(len(b), most))
	return w
}
