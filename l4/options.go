package l4

import (
	"weir/api"
	"weir/option"
)

const greatest = 2 // the kind of the option that tells the greatest segment

// length is one that options of a kind may have, kind and length with it.
type length struct{ kind, size int }

// lengths has those of the kinds that are known: options of such a kind have no other. An option of a kind that does not stand
// here may have any.
var lengths = [8]length{
	{greatest, 4},
	{3, 3},                             // scale
	{4, 2},                             // selective acknowledgements are understood
	{5, 10}, {5, 18}, {5, 26}, {5, 34}, // selective acknowledgements
	{8, 10}, // times
}

const optHead = 2 // bytes of an option's kind and length

// TcpOptions reads options.
func TcpOptions(b []byte) ([]api.Opt, api.Errno) {
	l, ok := option.Read(b)
	if !ok || !lengthsMayBe(l) {
		return nil, api.ErrTcpOption
	}
	return l, api.OK
}

// PutTcpOptions writes options, padded.
func PutTcpOptions(l []api.Opt) ([]byte, api.Errno) {
	b, ok := option.Put(l)
	if !ok || !lengthsMayBe(l) {
		return nil, api.ErrTcpOption
	}
	return b, api.OK
}

func lengthsMayBe(l []api.Opt) bool {
	for _, o := range l {
		if !lengthMayBe(o.Kind, optHead+len(o.Data)) {
			return false
		}
	}
	return true
}

// lengthMayBe tells whether an option of that kind may have that length.
func lengthMayBe(kind, size int) bool {
	known := false
	for _, k := range lengths {
		if k == (length{kind, size}) {
			return true
		}
		known = known || k.kind == kind
	}
	return !known
}
