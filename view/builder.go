package view

import "weir/api"

// Builder puts bytes together.
type Builder struct {
	bytes []byte
	max   int
}

// NewBuilder is a builder of at most max bytes.
func NewBuilder(max int) (*Builder, api.Errno) {
	if max < 0 || max > api.MaxBytes {
		return nil, api.ErrArg
	}
	return &Builder{max: max}, api.OK
}

// Put adds a number of n bytes.
func (b *Builder) Put(n int, v uint64) api.Errno {
	if e := fits(n, v); e != api.OK {
		return e
	}
	var number [maxNumber]byte
	write(number[:n], v)
	return b.Bytes(number[:n])
}

// Bytes adds the parts.
func (b *Builder) Bytes(parts ...[]byte) api.Errno {
	room := b.max - len(b.bytes)
	for _, p := range parts {
		if len(p) > room {
			return api.ErrBuilt
		}
		room -= len(p)
	}
	for _, p := range parts {
		b.bytes = append(b.bytes, p...)
	}
	return api.OK
}

// Patch writes a number of n bytes over those at at.
func (b *Builder) Patch(at, n int, v uint64) api.Errno {
	if e := fits(n, v); e != api.OK {
		return e
	}
	w, e := Window(b.bytes, at, n)
	if e != api.OK {
		return e
	}
	write(w, v)
	return api.OK
}

// Len tells how many bytes there are.
func (b *Builder) Len() int { return len(b.bytes) }

// Done is what was put together.
func (b *Builder) Done() []byte {
	out := make([]byte, len(b.bytes))
	copy(out, b.bytes)
	return out
}

// fits tells whether v is a number of n bytes.
func fits(n int, v uint64) api.Errno {
	if n < 1 || n > maxNumber {
		return api.ErrArg
	}
	if v>>(8*n) != 0 {
		return api.ErrValue
	}
	return api.OK
}

// write fills b with v, the highest byte first.
func write(b []byte, v uint64) {
	for i := len(b) - 1; i >= 0; i-- {
		b[i] = byte(v)
		v >>= 8
	}
}
