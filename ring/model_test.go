package ring_test

import (
	"bytes"
	"fmt"
	"math/rand"
	"slices"
	"testing"

	"weir/api"
	"weir/ring"
)

// model is a port told plainly: a list a line, a list of bytes a buffer.
type model struct {
	rx, tx, size                       int
	free, posted, filled, held, queued []int
	bytes                              [][]byte
	length                             []int
}

func newModel(rx, tx, pool, size int) *model {
	m := &model{rx: rx, tx: tx, size: size, length: make([]int, pool)}
	for i := range pool {
		m.free = append(m.free, i)
		m.bytes = append(m.bytes, make([]byte, size))
	}
	return m
}

func first(l *[]int) int {
	i := (*l)[0]
	*l = slices.Clone((*l)[1:])
	return i
}

func (m *model) refill(n int) int {
	k := 0
	for ; k < n && len(m.free) > 0 && len(m.posted)+len(m.filled) < m.rx; k++ {
		m.posted = append(m.posted, first(&m.free))
	}
	return k
}

func (m *model) arrive(b []byte) api.Errno {
	switch {
	case len(b) > 65535:
		return 2
	case len(b) > m.size:
		return 30
	case len(m.posted) == 0:
		return 31
	}
	i := first(&m.posted)
	copy(m.bytes[i], b)
	m.length[i] = len(b)
	m.filled = append(m.filled, i)
	return 0
}

func (m *model) poll() string {
	if len(m.filled) == 0 {
		return told(0, nil, false)
	}
	i := first(&m.filled)
	m.held = append(m.held, i)
	return told(i, m.bytes[i][:m.length[i]], true)
}

func (m *model) take() string {
	if len(m.free) == 0 {
		return told(0, nil, api.ErrPool)
	}
	i := first(&m.free)
	m.held = append(m.held, i)
	m.bytes[i] = make([]byte, m.size)
	return told(i, m.bytes[i], api.OK)
}

func (m *model) asks(i int) api.Errno {
	switch {
	case i < 0 || i >= len(m.bytes):
		return 1
	case !slices.Contains(m.held, i):
		return 34
	}
	return 0
}

func (m *model) drop(i int) { m.held = slices.DeleteFunc(m.held, func(x int) bool { return x == i }) }

func (m *model) release(i int) api.Errno {
	e := m.asks(i)
	if e == 0 {
		m.drop(i)
		m.free = append(m.free, i)
	}
	return e
}

func (m *model) send(i, n int) api.Errno {
	e := m.asks(i)
	switch {
	case e == 1 || n < 0 || n > m.size:
		return 1
	case e != 0:
		return e
	case len(m.queued) == m.tx:
		return 32
	}
	m.drop(i)
	m.length[i] = n
	m.queued = append(m.queued, i)
	return 0
}

func (m *model) buffer(i int) string {
	if e := m.asks(i); e != 0 {
		return told(0, nil, e)
	}
	return told(0, m.bytes[i], api.OK)
}

func (m *model) drain() string {
	if len(m.queued) == 0 {
		return told(0, nil, false)
	}
	i := first(&m.queued)
	m.free = append(m.free, i)
	return told(0, m.bytes[i][:m.length[i]], true)
}

func (m *model) places() []int {
	l := make([]int, len(m.bytes))
	for k, line := range [][]int{m.free, m.posted, m.filled, m.held, m.queued} {
		for _, i := range line {
			l[i] = k + 1
		}
	}
	return l
}

func told(i int, b []byte, last any) string { return fmt.Sprintf("%d %x %v", i, b, last) }

// step makes one drawn call of both, and tells what was called and both answers.
func step(r *rand.Rand, p *ring.Port, m *model) (string, string, string) {
	i, n := r.Intn(len(m.bytes)+2)-1, r.Intn(m.size+3)-1
	if len(m.held) > 0 && r.Intn(4) > 0 {
		i = m.held[r.Intn(len(m.held))]
	}
	switch r.Intn(8) {
	case 0:
		k := r.Intn(5) - 1
		return "Refill", fmt.Sprint(p.Refill(k)), fmt.Sprint(m.refill(k))
	case 1, 2:
		b := make([]byte, r.Intn(m.size+2))
		r.Read(b)
		return "Arrive", fmt.Sprint(p.Arrive(b)), fmt.Sprint(m.arrive(b))
	case 3:
		j, w, ok := p.Poll()
		return "Poll", told(j, w, ok), m.poll()
	case 4:
		if r.Intn(2) == 0 {
			w, e := p.Buffer(i)
			return "Buffer", told(0, w, e), m.buffer(i)
		}
		j, w, e := p.Take()
		return "Take", told(j, w, e), m.take()
	case 5:
		return "Release", fmt.Sprint(p.Release(i)), fmt.Sprint(m.release(i))
	case 6:
		return "Send", fmt.Sprint(p.Send(i, n)), fmt.Sprint(m.send(i, n))
	default:
		b, ok := p.Drain()
		return "Drain", told(0, b, ok), m.drain()
	}
}

// scribble writes through a window of a held buffer.
func scribble(r *rand.Rand, p *ring.Port, m *model) {
	if len(m.held) == 0 {
		return
	}
	i, at, v := m.held[r.Intn(len(m.held))], r.Intn(m.size), byte(r.Intn(256))
	w, _ := p.Buffer(i)
	w[at], m.bytes[i][at] = v, v
}

// 3.2 to 3.12: whatever is called in whatever order, the port answers what the plain one does.
func TestAgainstThePlainPort(t *testing.T) {
	r := rand.New(rand.NewSource(3))
	for range 300 {
		rx, tx, pool, size := 1+r.Intn(5), 1+r.Intn(4), 1+r.Intn(9), 64+r.Intn(3)
		p, m := port(t, rx, tx, pool, size), newModel(rx, tx, pool, size)
		for range 300 {
			what, got, want := step(r, p, m)
			if got != want {
				t.Fatalf("%s answers %s, want %s", what, got, want)
			}
			scribble(r, p, m)
			if l := p.Places(); !slices.Equal(l, m.places()) {
				t.Fatalf("behind %s the places are %v, want %v", what, l, m.places())
			}
			s := p.Stat()
			if s != (api.RingStat{Free: len(m.free), Posted: len(m.posted), Filled: len(m.filled), Held: len(m.held), Queued: len(m.queued)}) {
				t.Fatalf("behind %s Stat tells %+v", what, s)
			}
			if s.Free+s.Posted+s.Filled+s.Held+s.Queued != pool || s.Posted+s.Filled > rx || s.Queued > tx {
				t.Fatalf("3.12: behind %s Stat tells %+v", what, s)
			}
		}
	}
}

// 3.13
func TestWhatArrivedIsDrained(t *testing.T) {
	r := rand.New(rand.NewSource(13))
	p := port(t, 3, 2, 7, 80)
	var sent [][]byte
	for k := range 5000 {
		p.Refill(r.Intn(3))
		b := make([]byte, r.Intn(81))
		r.Read(b)
		p.Arrive(b)
		if r.Intn(2) == 0 {
			if i, w, ok := p.Poll(); ok {
				frame := bytes.Clone(w)
				if p.Send(i, len(w)) == api.OK {
					sent = append(sent, frame)
				} else {
					p.Release(i)
				}
			}
		}
		if r.Intn(2) == 0 {
			b, ok := p.Drain()
			if ok != (len(sent) > 0) || ok && !bytes.Equal(b, sent[0]) {
				t.Fatalf("step %d: Drain() = %x, %v, sent were %x", k, b, ok, sent)
			}
			if ok {
				sent = sent[1:]
			}
		}
	}
}

// 3.14
func TestNothingLeaks(t *testing.T) {
	r := rand.New(rand.NewSource(14))
	p := port(t, 4, 4, 6, 64)
	for range 2000 {
		p.Refill(r.Intn(4))
		p.Arrive(bytes.Repeat([]byte("s"), r.Intn(65)))
		if i, w, ok := p.Poll(); ok {
			if r.Intn(2) == 0 || p.Send(i, len(w)) != api.OK {
				p.Release(i)
			}
		}
		if r.Intn(2) == 0 {
			p.Drain()
		}
		i, w, e := p.Take()
		if e != api.OK {
			continue
		}
		if !bytes.Equal(w, make([]byte, 64)) {
			t.Fatalf("Take shows %q", w)
		}
		copy(w, "earlier")
		if p.Send(i, 7) != api.OK {
			p.Release(i)
		}
	}
}
