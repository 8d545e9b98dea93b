package desk

import "weir/api"

// form is how a line must be: its first word, and what stands behind it.
type form struct {
	word string
	must []slot
	may  []slot // what may be left out, behind all that must stand
}

// slot is where a value stands.
type slot struct {
	key  string // the word ahead of it; nothing: there is none
	kind int    // of the value
}

// reader goes through the words of a line. The first fault stands: nothing is left to read behind it, so that no step need ask whether the one ahead of it went well.
type reader struct {
	line  string
	words []word // those that were not taken
	err   api.Errno
	place int
}

func readerOf(line string) *reader { return &reader{line: line, words: wordsOf(line)} }

func (r *reader) ended() bool { return len(r.words) == 0 }

func (r *reader) fail(e api.Errno, place int) {
	if r.err == api.OK {
		r.err, r.place = e, place
		r.words = nil
	}
}

// take is the next word, gone over; the line may not end there.
func (r *reader) take() word {
	if r.ended() {
		r.fail(api.ErrDeskLine, len(r.line))
		return word{place: len(r.line)}
	}
	w := r.words[0]
	r.words = r.words[1:]
	return w
}

// takeRest is the next word with all that follow, and what is between them, gone over.
func (r *reader) takeRest() word {
	w := r.take()
	to := w.end()
	for !r.ended() {
		to = r.take().end()
	}
	return word{r.line[w.place:to], w.place}
}

// takeKey goes over a word that must stand there just so.
func (r *reader) takeKey(key string) {
	if w := r.take(); w.text != key {
		r.fail(api.ErrDeskLine, w.place)
	}
}

// values are what stands behind the line's first word: a value a slot.
func (r *reader) values(f form) []value {
	l := make([]value, 0, len(f.must)+len(f.may))
	for _, s := range f.must {
		l = append(l, r.value(s))
	}
	for _, s := range f.may {
		if !r.begins(s) {
			l = append(l, value{})
			continue
		}
		l = append(l, r.value(s))
	}
	if !r.ended() {
		r.fail(api.ErrDeskLine, r.words[0].place)
	}
	return l
}

// begins tells whether a slot that may be left out is there.
func (r *reader) begins(s slot) bool {
	return !r.ended() && (s.key == "" || s.key == r.words[0].text)
}

func (r *reader) value(s slot) value {
	if s.key != "" {
		r.takeKey(s.key)
	}
	take := r.take
	if s.kind == aRule {
		take = r.takeRest
	}
	w := take()
	v, e, at := valueOf(s.kind, w.text)
	if e != api.OK {
		r.fail(e, w.place+at)
	}
	v.said = true
	return v
}
