package addr

import "weir/api"

const allGroups = 8

// groups is what was read of an address of version 6.
type groups struct {
	bytes  [16]byte // of the groups that were read, one behind the other
	count  int
	gapped bool // there was a ::
	gap    int  // groups ahead of it
}

// six reads an address of version 6, up to the text's end.
func (r *reader) six() ([16]byte, api.Errno) {
	var g groups
	g.gapped = r.skip("::")
	more := !g.gapped || !r.ended()
	for more {
		e := r.group(&g)
		if e != api.OK {
			return [16]byte{}, e
		}
		more, e = r.between(&g)
		if e != api.OK {
			return [16]byte{}, e
		}
	}
	return g.address(), api.OK
}

// group reads a group, or a tail of version 4.
func (r *reader) group(g *groups) api.Errno {
	from := r.place
	digits, e := r.digits(16)
	if e != api.OK {
		return e
	}
	isTail := r.stands(".") && (g.count > 0 || g.gapped)
	if g.count+width(isTail) > g.most() {
		return r.refuse(from, api.ErrGroups)
	}
	if isTail {
		r.place = from // its first digits were taken as those of a group
		at := 2 * g.count
		g.count += width(isTail)
		return r.four(g.bytes[at : at+4])
	}
	if len(digits) > 4 {
		return r.refuse(from, api.ErrGroup)
	}
	n := value(digits, 16)
	g.bytes[2*g.count], g.bytes[2*g.count+1] = byte(n>>8), byte(n)
	g.count++
	return api.OK
}

// between goes over what stands behind a group, and tells whether another must follow.
func (r *reader) between(g *groups) (bool, api.Errno) {
	switch {
	case r.ended():
		if g.count < allGroups && !g.gapped {
			return false, api.ErrCut
		}
		return false, api.OK
	case r.stands("::"):
		if g.gapped || g.count == allGroups {
			return false, api.ErrGroups
		}
		r.skip("::")
		g.gapped, g.gap = true, g.count
		return !r.ended(), api.OK
	case r.skip(":"):
		return true, api.OK
	}
	return false, api.ErrText
}

// width tells for how many groups a group or a tail stands.
func width(isTail bool) int {
	if isTail {
		return 2
	}
	return 1
}

// most tells how many groups there may be: a :: stands for one at least.
func (g *groups) most() int {
	if g.gapped {
		return allGroups - 1
	}
	return allGroups
}

// address is the groups with zeros in the place of the ::.
func (g *groups) address() [16]byte {
	if !g.gapped {
		return g.bytes
	}
	var a [16]byte
	ahead, behind := g.bytes[:2*g.gap], g.bytes[2*g.gap:2*g.count]
	copy(a[:], ahead)
	copy(a[len(a)-len(behind):], behind)
	return a
}
