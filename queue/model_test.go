package queue_test

import (
	"testing"

	"weir/api"
)

// A second reading of the chapter: lines as plain lists, and one step for each sentence.

type entry struct{ item, size int }

type model struct {
	classes []api.Class
	lines   [][]entry
	deficit []int
	tokens  []int
	pointer int
	given   bool
}

func newModel(classes []api.Class) *model {
	n := len(classes)
	m := &model{classes: classes, lines: make([][]entry, n), deficit: make([]int, n)}
	for _, c := range classes {
		m.tokens = append(m.tokens, c.Burst)
	}
	return m
}

func (m *model) bytes(class int) (n int) {
	for _, e := range m.lines[class] {
		n += e.size
	}
	return n
}

func (m *model) push(class, size, item int) api.Errno {
	if class < 0 || class >= len(m.classes) {
		return api.ErrClass
	}
	if size < 1 || size > 65535 {
		return api.ErrSize
	}
	if len(m.lines[class]) == m.classes[class].Items || m.bytes(class)+size > m.classes[class].Bytes {
		return api.ErrQFull
	}
	m.lines[class] = append(m.lines[class], entry{item, size})
	return api.OK
}

func (m *model) waits(class int) bool { return len(m.lines[class]) > 0 }

func (m *model) heldUp(class int) bool {
	return m.waits(class) && m.classes[class].Rate > 0 && m.tokens[class] < m.lines[class][0].size
}

// able tells whether a class waits and is not held up.
func (m *model) able(class int) bool { return m.waits(class) && !m.heldUp(class) }

func (m *model) anyAble() bool {
	for c := range m.classes {
		if m.able(c) {
			return true
		}
	}
	return false
}

// pop tells besides how many bytes the item has.
func (m *model) pop() (e entry, class int, ok bool) {
	if !m.anyAble() {
		return entry{}, 0, false
	}
	for {
		c := m.pointer
		if m.able(c) {
			if !m.given {
				m.deficit[c] += m.classes[c].Quantum
				m.given = true
			}
			if e := m.lines[c][0]; e.size <= m.deficit[c] {
				m.lines[c] = m.lines[c][1:]
				m.deficit[c] -= e.size
				if m.classes[c].Rate > 0 {
					m.tokens[c] -= e.size
				}
				if len(m.lines[c]) == 0 {
					m.deficit[c] = 0
				}
				return e, c, true
			}
		}
		if m.heldUp(c) && m.deficit[c] > m.lines[c][0].size {
			m.deficit[c] = m.lines[c][0].size
		}
		m.given = false
		m.pointer++
		if m.pointer == len(m.classes) {
			m.pointer = 0
		}
	}
}

func (m *model) tick() {
	for c, l := range m.classes {
		if l.Rate > 0 {
			m.tokens[c] += l.Rate
			if m.tokens[c] > l.Burst {
				m.tokens[c] = l.Burst
			}
		}
	}
}

// 18.2 to 18.7: drawn calls, right ones and wrong ones, against the second reading, which hears of no Peek.
func TestAgainstModel(t *testing.T) {
	d := rolled(18)
	for range 1500 {
		l := d.classes(1 + d.Intn(8))
		q, m := made(t, l...), newModel(l)
		mood := 2 + d.Intn(6) // the greater, the more come than go
		for item := range 300 {
			switch k := d.Intn(mood + 3); {
			case k < mood:
				class, size := d.Intn(len(l)), d.size()
				if d.Intn(20) == 0 {
					class, size = d.Intn(len(l)+2)-1, d.of(-1, 0, 1, 65535, 65536)
				}
				if got, want := q.Push(class, size, item), m.push(class, size, item); got != want {
					t.Fatalf("%+v: Push(%d, %d, %d) = %d, want %d", l, class, size, item, got, want)
				}
			case k == mood:
				n := d.of(1, 1, 2, 50)
				ticks(q, n)
				for range n {
					m.tick()
				}
			default:
				i, c, ok := q.Peek()
				j, k, and := q.Pop()
				e, class, there := m.pop()
				if i != e.item || c != class || ok != there || i != j || c != k || ok != and {
					t.Fatalf("%+v: Peek tells %d, %d, %v, Pop %d, %d, %v; want %d, %d, %v", l, i, c, ok, j, k, and, e.item, class, there)
				}
			}
			if holds(t, q, loads(m)...); t.Failed() {
				t.Fatalf("of %+v", l)
			}
		}
	}
}

// loads is what waits in each class of the second reading.
func loads(m *model) (l []load) {
	for c, line := range m.lines {
		l = append(l, load{len(line), m.bytes(c)})
	}
	return l
}
