package reasm

import (
	"bytes"
	"slices"

	"weir/api"
)

// A head outlives the call that brings it: its lists are copied, lest they be written into from outside.

func copy4(h api.Ip4) api.Ip4 {
	h.Opts, h.Data = copyOpts(h.Opts), bytes.Clone(h.Data)
	return h
}

func copy6(h api.Ip6) api.Ip6 {
	h.Exts, h.Data = slices.Clone(h.Exts), bytes.Clone(h.Data)
	for i, x := range h.Exts {
		h.Exts[i].Opts, h.Exts[i].Data = copyOpts(x.Opts), bytes.Clone(x.Data)
	}
	return h
}

func copyOpts(l []api.Opt) []api.Opt {
	l = slices.Clone(l)
	for i, o := range l {
		l[i].Data = bytes.Clone(o.Data)
	}
	return l
}
