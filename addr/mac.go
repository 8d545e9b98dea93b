package addr

import "weir/api"

const (
	maxMac    = 17 // bytes of a link address's text
	hexDigits = "0123456789abcdef"
)

// ParseMac reads a link address.
func ParseMac(s string) (api.Mac, api.Errno, int) {
	if len(s) > maxMac {
		return api.Mac{}, api.ErrLong, maxMac
	}
	r := reader{text: s}
	var m api.Mac
	for i := range m {
		if i > 0 && !r.skip(":") {
			return api.Mac{}, r.wrong(), r.place
		}
		for range 2 {
			if r.ended() || digit(s[r.place]) >= 16 {
				return api.Mac{}, r.wrong(), r.place
			}
			m[i] = m[i]<<4 | byte(digit(s[r.place]))
			r.place++
		}
	}
	return m, api.OK, 0
}

// PrintMac writes a link address.
func PrintMac(m api.Mac) string {
	var text []byte
	for i, b := range m {
		if i > 0 {
			text = append(text, ':')
		}
		text = append(text, hexDigits[b>>4], hexDigits[b&0xf])
	}
	return string(text)
}
