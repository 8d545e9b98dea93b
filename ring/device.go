package ring

import "weir/api"

// Arrive is a frame that comes from outside.
func (p *Port) Arrive(b []byte) api.Errno {
	if len(b) > api.MaxBytes {
		return api.ErrLong
	}
	if len(b) > p.size {
		return api.ErrBig
	}
	if p.filled == p.rx.count {
		return api.ErrRxFull
	}
	i := p.rx.at(p.filled)
	p.filled++
	copy(p.memory(i), b)
	p.buffers[i].place, p.buffers[i].length = api.BFilled, len(b)
	return api.OK
}

// Drain is the next frame that goes out.
func (p *Port) Drain() ([]byte, bool) {
	if p.tx.count == 0 {
		return nil, false
	}
	i := p.tx.leave()
	frame := make([]byte, p.buffers[i].length)
	copy(frame, p.memory(i))
	p.letGo(i)
	return frame, true
}
