package desk

import (
	"strconv"
	"strings"

	"weir/api"
)

const (
	maxNumber = 1 << 28
	noBytes   = "-" // a word must stand where bytes stand, also if there are none
	digits    = "0123456789abcdef"
)

// linesOf are the lines of a text; false: it has more bytes, or more lines, than may be.
func linesOf(text string) ([]string, bool) {
	if len(text) > api.MaxScript {
		return nil, false
	}
	var l []string
	for line := range strings.Lines(text) {
		l = append(l, strings.TrimSuffix(line, "\n"))
	}
	return l, len(l) <= api.MaxLines
}

// word is a word of a line.
type word struct {
	text  string
	place int // of its first byte
}

// end is the place behind it.
func (w word) end() int { return w.place + len(w.text) }

// wordsOf are the words of a line, up to a remark.
func wordsOf(line string) []word {
	var l []word
	from := -1 // where the word began in which the walk is; -1: it is in none
	for place, r := range line {
		blank := r == ' ' || r == '\t'
		switch {
		case blank && from >= 0:
			l = append(l, word{line[from:place], from})
			from = -1
		case !blank && from < 0 && r == '#':
			return l
		case !blank && from < 0:
			from = place
		}
	}
	if from >= 0 {
		l = append(l, word{line[from:], from})
	}
	return l
}

func numberOf(text string) (int, bool) {
	n, err := strconv.Atoi(text)
	// Atoi reads signs and leading zeros too; what it read is written without them
	return n, err == nil && strconv.Itoa(n) == text && 0 <= n && n <= maxNumber
}

func bytesOf(text string) ([]byte, bool) {
	if text == noBytes {
		return nil, true
	}
	if len(text)%2 != 0 {
		return nil, false
	}
	b := make([]byte, len(text)/2)
	for i := range b {
		high, low := strings.IndexByte(digits, text[2*i]), strings.IndexByte(digits, text[2*i+1])
		if high < 0 || low < 0 {
			return nil, false
		}
		b[i] = byte(high<<4 | low)
	}
	return b, true
}

func bytesText(b []byte) string {
	if len(b) == 0 {
		return noBytes
	}
	text := make([]byte, 0, 2*len(b))
	for _, v := range b {
		text = append(text, digits[v>>4], digits[v&0xf])
	}
	return string(text)
}
