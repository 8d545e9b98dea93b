package addr

import (
	"strings"

	"weir/api"
)

// reader goes through a text from the left. Where it answers an error, it stands at the place of that error.
type reader struct {
	text  string
	place int
}

func (r *reader) ended() bool { return r.place == len(r.text) }

// wrong is the error where something else must stand than what stands here.
func (r *reader) wrong() api.Errno {
	if r.ended() {
		return api.ErrCut
	}
	return api.ErrText
}

// end is the error where the text must end here.
func (r *reader) end() api.Errno {
	if r.ended() {
		return api.OK
	}
	return api.ErrText
}

// stands tells whether a mark stands here.
func (r *reader) stands(mark string) bool { return strings.HasPrefix(r.text[r.place:], mark) }

// skip goes over a mark, if it stands here.
func (r *reader) skip(mark string) bool {
	if !r.stands(mark) {
		return false
	}
	r.place += len(mark)
	return true
}

// refuse goes back to the place of what is refused.
func (r *reader) refuse(place int, why api.Errno) api.Errno {
	r.place = place
	return why
}

// digits takes the digits of a base, as many as follow; there must be one.
func (r *reader) digits(base int) (string, api.Errno) {
	from := r.place
	for !r.ended() && digit(r.text[r.place]) < base {
		r.place++
	}
	if r.place == from {
		return "", r.wrong()
	}
	return r.text[from:r.place], api.OK
}

// number reads a decimal number of at most three digits, up to most; why is the error of one that may not be.
func (r *reader) number(most int, why api.Errno) (int, api.Errno) {
	from := r.place
	digits, e := r.digits(10)
	if e != api.OK {
		return 0, e
	}
	if len(digits) > 3 || len(digits) > 1 && digits[0] == '0' || value(digits, 10) > most {
		return 0, r.refuse(from, why)
	}
	return value(digits, 10), api.OK
}

// value is the number that a few digits of a base are.
func value(digits string, base int) int {
	n := 0
	for i := range len(digits) {
		n = n*base + digit(digits[i])
	}
	return n
}

// digit is the value of a digit; of another byte it is above those of every base.
func digit(c byte) int {
	switch {
	case '0' <= c && c <= '9':
		return int(c - '0')
	case 'a' <= c && c <= 'f':
		return int(c-'a') + 10
	case 'A' <= c && c <= 'F':
		return int(c-'A') + 10
	}
	return 16
}
