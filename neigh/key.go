package neigh

import (
	"bytes"
	"cmp"

	"weir/api"
)

// key says whose entry it is.
type key struct {
	port int
	ip   api.IP
}

// order tells which of two entries comes first: by port, then by version, then by the address's bytes.
func order(a, b key) int {
	return cmp.Or(cmp.Compare(a.port, b.port), cmp.Compare(a.ip.V, b.ip.V), bytes.Compare(a.ip.A[:], b.ip.A[:]))
}

// mayBe tells whether there may be an entry of that port and address.
func (k key) mayBe() bool { return within(k.port, 0, api.MaxPorts-1) && ipMayBe(k.ip) }

// ipMayBe tells whether the values are an address.
func ipMayBe(ip api.IP) bool {
	return ip.V == 6 || ip.V == 4 && ip.A == [16]byte{ip.A[0], ip.A[1], ip.A[2], ip.A[3]}
}

// macMayBe tells whether a station may have that link address: it is neither none nor a group's.
func macMayBe(m api.Mac) bool { return m != api.Mac{} && m[0]&1 == 0 }

// configMayBe tells whether a cache may have that configuration.
func configMayBe(c api.NeighConfig) bool {
	return within(c.Max, 1, api.MaxNeighs) && within(c.Line, 1, api.MaxWait) && within(c.Every, 1, api.MaxAge) &&
		within(c.Tries, 1, api.MaxTries) && within(c.Fresh, 1, api.MaxAge)
}

func within(n, low, high int) bool { return low <= n && n <= high }
