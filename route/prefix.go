package route

import (
	"cmp"
	"iter"

	"weir/addr"
	"weir/api"
)

const (
	bits4 = 32
	bits6 = 128
)

// prefixes gives all prefixes that an address lies in, from the longest to the shortest; of what is no address none.
func prefixes(ip api.IP) iter.Seq[api.Prefix] {
	return func(yield func(api.Prefix) bool) {
		for n := bits(ip); n >= 0; n-- {
			net, e := addr.Mask(ip, n)
			if e != api.OK || !yield(api.Prefix{IP: net, Len: n}) {
				return
			}
		}
	}
}

// bits tells how many bits an address has.
func bits(ip api.IP) int {
	if ip.V == 4 {
		return bits4
	}
	return bits6
}

// order tells which of two routes is told first: by version and address, then by length.
func order(a, b api.Route) int {
	p, q := a.Prefix, b.Prefix
	if addr.Less(p.IP, q.IP) {
		return -1
	}
	if addr.Less(q.IP, p.IP) {
		return 1
	}
	return cmp.Compare(p.Len, q.Len)
}
