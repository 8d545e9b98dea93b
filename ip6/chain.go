package ip6

import (
	"weir/api"
	"weir/view"
)

const (
	unit    = 8 // bytes that the length of an extension header, and the offset of a fragment, count as one
	extHead = 2 // bytes of an extension header's next and length
	extBody = 6 // the fewest bytes behind these
)

// takeExts reads extension headers from the cursor on, as long as one stands there that is no Fragment header; next is the
// kind of the first. It answers them, and the kind of what stands behind. hopMay: the first of them may be hop-by-hop.
func takeExts(c *view.Cursor, next int, hopMay bool) ([]api.Ext, int, api.Errno) {
	var l []api.Ext
	for madeOf(next) == ofOptions || madeOf(next) == ofBytes {
		if next == hopByHop && (len(l) > 0 || !hopMay) {
			return nil, 0, api.ErrFirst
		}
		if len(l) == api.MaxExts {
			return nil, 0, api.ErrExts
		}
		x, behind, e := takeExt(c, next)
		if e != api.OK {
			return nil, 0, e
		}
		l, next = append(l, x), behind
	}
	return l, next, api.OK
}

// takeExt reads one extension header of that kind, and the kind of what stands behind.
func takeExt(c *view.Cursor, kind int) (api.Ext, int, api.Errno) {
	head, e := c.Window(extHead)
	if e != api.OK {
		return api.Ext{}, 0, api.ErrChain
	}
	body, e := c.Window(unit*int(head[1]) + extBody)
	if e != api.OK {
		return api.Ext{}, 0, api.ErrChain
	}
	x := api.Ext{Kind: kind}
	if madeOf(kind) == ofBytes {
		x.Data = body
	} else {
		x.Opts = takeOptions(body)
	}
	return x, int(head[0]), api.OK
}

// putExts writes extension headers that may be; next is the kind of what stands behind the last.
func putExts(b *view.Builder, l []api.Ext, next int) {
	for i, x := range l {
		b.Put(1, uint64(firstKind(l[i+1:], next)))
		b.Put(1, uint64(extSize(x)/unit-1))
		b.Bytes(x.Data)
		putOptions(b, x.Opts)
	}
}

// firstKind is the kind of the first of these headers, and of what stands behind if there is none.
func firstKind(l []api.Ext, next int) int {
	if len(l) == 0 {
		return next
	}
	return l[0].Kind
}

// checkExts tells whether these may be the extension headers ahead of an upper layer or of a Fragment header.
func checkExts(l []api.Ext, hopMay bool) api.Errno {
	if len(l) > api.MaxExts {
		return api.ErrExts
	}
	for i, x := range l {
		if x.Kind == hopByHop && (i > 0 || !hopMay) {
			return api.ErrFirst
		}
		if e := checkExt(x); e != api.OK {
			return e
		}
	}
	return api.OK
}

func checkExt(x api.Ext) api.Errno {
	switch madeOf(x.Kind) {
	case ofBytes:
		if len(x.Opts) > 0 || !bodyMayBe(len(x.Data)) {
			return api.ErrChain
		}
		return api.OK
	case ofOptions:
		if len(x.Data) > 0 {
			return api.ErrChain
		}
		if !optionsMayBe(x.Opts) {
			return api.ErrOption6
		}
		return api.OK
	}
	return api.ErrChain
}

// bodyMayBe tells whether so many bytes may stand in an extension header behind its length.
func bodyMayBe(n int) bool {
	return within(n-extBody, unit*maxByte) && n%unit == extBody
}

func extSize(x api.Ext) int { return extHead + len(x.Data) + optionsSize(x.Opts) }

func extsSize(l []api.Ext) int {
	n := 0
	for _, x := range l {
		n += extSize(x)
	}
	return n
}
