package ring

import "weir/api"

// buffer is one of the pool, at one place.
type buffer struct {
	place  int
	length int    // of the frame in it, while it is filled or queued
	bytes  []byte // none until somebody wants them: the largest pool has half a gigabyte, most of which many a port never touches
}

// memory is the whole of buffer i, once made the same for good: windows stay joined to it.
func (p *Port) memory(i int) []byte {
	b := &p.buffers[i]
	if b.bytes == nil {
		b.bytes = make([]byte, p.size)
	}
	return b.bytes
}

// window is the first n bytes of buffer i, without room behind them, lest an append write into the buffer.
func (p *Port) window(i, n int) []byte { return p.memory(i)[0:n:n] }

// letGo makes buffer i free; the line of free ones has a place for each buffer of the pool.
func (p *Port) letGo(i int) {
	p.buffers[i].place = api.BFree
	p.free.join(i)
}

// held is OK only of a buffer that is with the software.
func (p *Port) held(i int) api.Errno {
	if !within(i, 0, len(p.buffers)-1) {
		return api.ErrArg
	}
	if p.buffers[i].place != api.BHeld {
		return api.ErrNotHeld
	}
	return api.OK
}
