package split

import (
	"weir/api"
	"weir/ip4"
	"weir/own"
)

const (
	bareHead = 20  // bytes of a header of IPv4 without options
	copied   = 128 // the bit of an option's kind that says: it stands in every piece
)

// four is IPv4: its options make the first header longer than the others, but for those that stand in every piece.
type four struct{ first, other int }

func (f four) heads(n int) int {
	if n == 0 {
		return f.first
	}
	return f.other
}

// pieces4 is h cut; Check has taken it, and it is above mtu.
func pieces4(h api.Ip4, mtu int) []api.Ip4 {
	opts := everywhere(h.Opts)
	parts := cut(h.Data, four{head4(h.Opts), head4(opts)}, mtu)
	l := make([]api.Ip4, len(parts))
	for i, p := range parts {
		x := h
		x.Off, x.MF, x.Data = h.Off+p.at, h.MF || !p.last, p.data
		if i > 0 {
			x.Opts = opts
		}
		l[i] = own.Four(x)
	}
	return l
}

// everywhere is those of the options that stand in every piece.
func everywhere(l []api.Opt) []api.Opt {
	var some []api.Opt
	for _, o := range l {
		if o.Kind&copied != 0 {
			some = append(some, o)
		}
	}
	return some
}

// head4 is how many bytes a header with these options has, which may be.
func head4(l []api.Opt) int {
	b, _ := ip4.PutOptions(l)
	return bareHead + len(b)
}

// size4 is how many bytes a datagram has that Check takes.
func size4(h api.Ip4) int { return head4(h.Opts) + len(h.Data) }
