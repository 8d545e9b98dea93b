package ip6

// The kinds of extension headers.
const (
	hopByHop    = 0
	routing     = 43
	fragment    = 44
	destination = 60
)

// What a header of some kind is made of.
const (
	upper     = iota // no extension header: all that is behind is its own
	ofOptions        // next, length, options
	ofBytes          // next, length, bytes that mean nothing here
	ofPiece          // the place of a fragment
)

type kindOf struct{ kind, made int }

// kinds has each kind of extension header, and what it is made of.
var kinds = [4]kindOf{{hopByHop, ofOptions}, {routing, ofBytes}, {fragment, ofPiece}, {destination, ofOptions}}

// madeOf is what a header of that kind is made of: every kind that the table does not have is an upper layer.
func madeOf(kind int) int {
	for _, k := range kinds {
		if k.kind == kind {
			return k.made
		}
	}
	return upper
}
