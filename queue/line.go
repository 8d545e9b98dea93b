package queue

// line is a list of anything, first in, first out, in a ring of its own, which is as wide as the longest line was.
type line[T any] struct {
	slots []T
	first int // the slot of the head
	count int
}

// head may be asked for only while something stands in the line.
func (l *line[T]) head() T { return l.slots[l.first] }

func (l *line[T]) join(v T) {
	if l.count == len(l.slots) {
		l.widen()
	}
	l.slots[(l.first+l.count)%len(l.slots)] = v
	l.count++
}

// leave may be called only while something stands in the line. The slot is wiped, for the line is not to keep what has left.
func (l *line[T]) leave() T {
	var none T
	v := l.head()
	l.slots[l.first] = none
	l.first = (l.first + 1) % len(l.slots)
	l.count--
	return v
}

// widen moves a line that fills its ring into one twice as wide, with the head in its first slot.
func (l *line[T]) widen() {
	wider := make([]T, max(1, 2*len(l.slots)))
	n := copy(wider, l.slots[l.first:])
	copy(wider[n:], l.slots[:l.first])
	l.slots, l.first = wider, 0
}
