package addr

import (
	"strconv"
	"strings"

	"weir/api"
)

const maxPrefix = 49 // bytes of a prefix's longest text

// ParsePrefix reads a prefix.
func ParsePrefix(s string) (api.Prefix, api.Errno, int) {
	if len(s) > maxPrefix {
		return api.Prefix{}, api.ErrLong, maxPrefix
	}
	slash := strings.IndexByte(s, '/')
	if slash < 0 {
		return api.Prefix{}, api.ErrCut, len(s)
	}
	ip, e, place := ParseIP(s[:slash])
	if e != api.OK {
		return api.Prefix{}, e, place
	}
	r := reader{text: s, place: slash + 1}
	n, e := r.number(bits(ip), api.ErrLength)
	if e == api.OK {
		e = r.end()
	}
	if e != api.OK {
		return api.Prefix{}, e, r.place
	}
	p := api.Prefix{IP: ip, Len: n}
	if e := ValidPrefix(p); e != api.OK {
		return api.Prefix{}, e, 0
	}
	return p, api.OK, 0
}

// PrintPrefix writes a prefix.
func PrintPrefix(p api.Prefix) (string, api.Errno) {
	if e := ValidPrefix(p); e != api.OK {
		return "", e
	}
	text, e := PrintIP(p.IP)
	return text + "/" + strconv.Itoa(p.Len), e
}
