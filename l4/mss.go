package l4

import (
	"bytes"

	"weir/api"
	"weir/view"
)

// Mss is the greatest segment that a segment's options tell.
func Mss(t api.Tcp) (int, bool) {
	for _, o := range t.Opts {
		if n, ok := told(o); ok {
			return n, true
		}
	}
	return 0, false
}

// Clamp lowers what a SYN's options tell as the greatest segment to most.
func Clamp(t api.Tcp, most int) api.Tcp {
	most = max(most, 0)
	l := make([]api.Opt, len(t.Opts))
	for i, o := range t.Opts {
		o.Data = bytes.Clone(o.Data)
		if n, ok := told(o); ok && n > most && t.Flags&api.TcpSyn != 0 {
			o.Data = []byte{byte(most >> 8), byte(most)}
		}
		l[i] = o
	}
	t.Opts = l
	return t
}

// told is the greatest segment that one option tells; false: it tells none.
func told(o api.Opt) (int, bool) {
	if o.Kind != greatest || len(o.Data) != 2 {
		return 0, false
	}
	n, e := view.Uint(o.Data, 0, 2)
	return int(n), e == api.OK
}
