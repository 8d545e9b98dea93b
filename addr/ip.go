package addr

import (
	"strconv"
	"strings"

	"weir/api"
)

const maxIP = 45 // bytes of an address's longest text: six groups and a tail of version 4

// ParseIP reads an address, or tells where the text is none.
func ParseIP(s string) (api.IP, api.Errno, int) {
	if len(s) > maxIP {
		return api.IP{}, api.ErrLong, maxIP
	}
	r, ip, e := reader{text: s}, api.IP{}, api.OK
	if strings.Contains(s, ":") {
		ip.V = 6
		ip.A, e = r.six()
	} else {
		ip.V = 4
		e = r.four(ip.A[:4])
	}
	if e != api.OK {
		return api.IP{}, e, r.place
	}
	return ip, api.OK, 0
}

// four reads an address of version 4, up to the text's end, into a.
func (r *reader) four(a []byte) api.Errno {
	for i := range a {
		if i > 0 && !r.skip(".") {
			return r.wrong()
		}
		n, e := r.number(255, api.ErrGroup)
		if e != api.OK {
			return e
		}
		a[i] = byte(n)
	}
	return r.end()
}

// PrintIP writes an address.
func PrintIP(ip api.IP) (string, api.Errno) {
	if !Valid(ip) {
		return "", api.ErrAddr
	}
	if ip.V == 4 {
		return dotted(ip.A[:4]), api.OK
	}
	if head(ip.A, 96) == [16]byte{10: 0xff, 11: 0xff} {
		return "::ffff:" + dotted(ip.A[12:]), api.OK
	}
	return grouped(ip.A), api.OK
}

// dotted writes bytes as numbers with dots between.
func dotted(a []byte) string {
	var numbers []string
	for _, n := range a {
		numbers = append(numbers, strconv.Itoa(int(n)))
	}
	return strings.Join(numbers, ".")
}

// grouped writes an address of version 6 as RFC 5952 has it.
func grouped(a [16]byte) string {
	var groups []string
	for i := 0; i < len(a); i += 2 {
		groups = append(groups, strconv.FormatInt(int64(a[i])<<8|int64(a[i+1]), 16))
	}
	from, to := longestZeros(groups)
	if to-from < 2 {
		return strings.Join(groups, ":")
	}
	return strings.Join(groups[:from], ":") + "::" + strings.Join(groups[to:], ":")
}

// longestZeros tells from where to where the longest run of zeros goes, of several as long as another the first.
func longestZeros(groups []string) (from, to int) {
	for i := range groups {
		end := i
		for end < len(groups) && groups[end] == "0" {
			end++
		}
		if end-i > to-from {
			from, to = i, end
		}
	}
	return from, to
}
