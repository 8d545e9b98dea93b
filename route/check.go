package route

import (
	"weir/addr"
	"weir/api"
)

// check tells whether the values are a route.
func check(r api.Route) api.Errno {
	if addr.ValidPrefix(r.Prefix) != api.OK {
		return api.ErrPrefix
	}
	if r.Port < 0 || r.Port >= api.MaxPorts {
		return api.ErrPort
	}
	if r.Via != (api.IP{}) && !station(r.Via, r.Prefix.IP.V) {
		return api.ErrVia
	}
	return api.OK
}

// station tells whether an address may be that of one station on a link, and is of that version.
func station(ip api.IP, version int) bool {
	class := addr.Class(ip)
	return ip.V == version && (class == api.CUni || class == api.CLocal)
}
