package ring

// line is a ring of descriptors: the numbers of buffers, first in, first out, in a fixed number of places.
type line struct {
	slots []int
	first int // the slot of the one that leaves next
	count int
}

func newLine(places int) line { return line{slots: make([]int, places)} }

func (l *line) full() bool { return l.count == len(l.slots) }

// at is the k-th from the one that leaves next; k is below count.
func (l *line) at(k int) int { return l.slots[(l.first+k)%len(l.slots)] }

// join may be called only while the line is not full.
func (l *line) join(i int) {
	l.slots[(l.first+l.count)%len(l.slots)] = i
	l.count++
}

// leave may be called only while somebody stands in the line.
func (l *line) leave() int {
	i := l.at(0)
	l.first = (l.first + 1) % len(l.slots)
	l.count--
	return i
}
