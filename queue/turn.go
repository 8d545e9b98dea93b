package queue

import "weir/api"

// turn is how far the round robin is. It is a value, so that a walk that is not to change the queue goes on with a copy.
type turn struct {
	at      int                 // the class at which the pointer stands
	given   bool                // whether that class was given its quantum since the pointer came there
	deficit [api.MaxClasses]int // of each class
}

// walk goes from class to class, with a turn of its own, until the head of one may go; it hands that turn to the step, which answers the item.
func (q *Queue) walk(step func(turn) int) (int, int, bool) {
	if !q.anyReady() {
		return 0, 0, false
	}
	t := q.turn
	for !t.serves(&q.classes[t.at]) {
		t.leave(&q.classes[t.at])
		t.come((t.at + 1) % len(q.classes))
	}
	return step(t), t.at, true
}

// take is the step of Pop.
func (q *Queue) take(t turn) int {
	c := &q.classes[t.at]
	i := c.leave()
	t.deficit[t.at] -= i.size
	if !c.waits() {
		t.deficit[t.at] = 0
	}
	q.turn = t
	return i.number
}

// look is the step of Peek.
func (q *Queue) look(t turn) int { return q.classes[t.at].line.head().number }

func (q *Queue) anyReady() bool {
	for i := range q.classes {
		if q.classes[i].ready() {
			return true
		}
	}
	return false
}

// serves tells whether the head of the class at the pointer may go, once that class was given its quantum.
func (t *turn) serves(c *class) bool {
	if !c.ready() {
		return false
	}
	if !t.given {
		t.deficit[t.at] += c.limits.Quantum
		t.given = true
	}
	return c.line.head().size <= t.deficit[t.at]
}

// leave is the pointer's leaving a class, which, held up, saves no more than its head wants.
func (t *turn) leave(c *class) {
	if c.heldUp() {
		t.deficit[t.at] = min(t.deficit[t.at], c.line.head().size)
	}
}

// come is the pointer's coming to a class.
func (t *turn) come(at int) { t.at, t.given = at, false }
