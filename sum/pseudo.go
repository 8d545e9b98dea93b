package sum

import "weir/api"

// Pseudo is the pseudo-header of n bytes of a protocol.
func Pseudo(src, dst api.IP, proto, n int) ([]byte, api.Errno) {
	if !isAddress(src) || !isAddress(dst) || src.V != dst.V {
		return nil, api.ErrFamily
	}
	if proto < 0 || proto > 0xff || !isWord(n) {
		return nil, api.ErrArg
	}
	high, low, kind := byte(n>>8), byte(n), byte(proto)
	if src.V == 4 {
		b := append([]byte(nil), src.A[:4]...)
		b = append(b, dst.A[:4]...)
		return append(b, 0, kind, high, low), api.OK
	}
	b := append([]byte(nil), src.A[:]...)
	b = append(b, dst.A[:]...)
	return append(b, 0, 0, high, low, 0, 0, 0, kind), api.OK
}

// isAddress: of version 4, the bytes behind the fourth count as well, so that one address has one value.
func isAddress(a api.IP) bool {
	if a.V == 4 {
		rest := a.A
		clear(rest[:4])
		return rest == [16]byte{}
	}
	return a.V == 6
}
