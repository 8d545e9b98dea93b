package split

const unit = 8 // bytes that an offset counts as one: only a last piece may end within it

// version is one of the two of IP: what stands in a piece ahead of its part of the bytes.
type version interface {
	heads(n int) int // how many bytes that is in the n-th piece, counted from 0
}

// part is what one piece gets of the bytes.
type part struct {
	at   int    // how many bytes are ahead of it
	data []byte // a window of the bytes
	last bool
}

// cut is b in parts which, with the headers that v has ahead of them, are not above mtu; these must leave room for a unit.
func cut(b []byte, v version, mtu int) []part {
	var l []part
	for at := 0; ; {
		room := mtu - v.heads(len(l))
		if len(b)-at <= room {
			return append(l, part{at, b[at:len(b):len(b)], true})
		}
		end := at + room/unit*unit
		l = append(l, part{at, b[at:end:end], false})
		at = end
	}
}
