package ring

import "weir/api"

// Refill posts up to n free buffers, and tells how many.
func (p *Port) Refill(n int) int {
	posted := 0
	for posted < n && p.free.count > 0 && !p.rx.full() {
		i := p.free.leave()
		p.buffers[i].place = api.BPosted
		p.rx.join(i)
		posted++
	}
	return posted
}

// Poll takes the next filled buffer: its number, a window of the frame.
func (p *Port) Poll() (int, []byte, bool) {
	if p.filled == 0 {
		return 0, nil, false
	}
	i := p.rx.leave()
	p.filled--
	p.buffers[i].place = api.BHeld
	return i, p.window(i, p.buffers[i].length), true
}

// Take takes a free buffer: its number, a window of all of it.
func (p *Port) Take() (int, []byte, api.Errno) {
	if p.free.count == 0 {
		return 0, nil, api.ErrPool
	}
	i := p.free.leave()
	p.buffers[i].place = api.BHeld
	w := p.window(i, p.size)
	clear(w)
	return i, w, api.OK
}

// Buffer is a window of a held buffer.
func (p *Port) Buffer(i int) ([]byte, api.Errno) {
	if e := p.held(i); e != api.OK {
		return nil, e
	}
	return p.window(i, p.size), api.OK
}

// Release gives a held buffer back.
func (p *Port) Release(i int) api.Errno {
	if e := p.held(i); e != api.OK {
		return e
	}
	p.letGo(i)
	return api.OK
}

// Send queues the first n bytes of a held buffer.
func (p *Port) Send(i, n int) api.Errno {
	if !within(n, 0, p.size) {
		return api.ErrArg // ahead of where the buffer is; a wrong i would answer the same
	}
	if e := p.held(i); e != api.OK {
		return e
	}
	if p.tx.full() {
		return api.ErrTxFull
	}
	p.buffers[i].place, p.buffers[i].length = api.BQueued, n
	p.tx.join(i)
	return api.OK
}
