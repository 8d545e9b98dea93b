// Package view: bounds-checked big-endian looks at bytes, windows that share memory, a builder: see DOC.md, chapter 1.
package view

import "weir/api"

const (
	maxNumber = 8  // bytes of a number
	maxWidth  = 32 // bits of a field
)

// Uint reads n bytes as a number.
func Uint(b []byte, at, n int) (v uint64, e api.Errno) {
	if n < 1 || n > maxNumber {
		return 0, api.ErrArg
	}
	defer func() {
		if recover() != nil {
			v, e = 0, api.ErrOut
		}
	}()
	for _, x := range cut(b, at, n) {
		v = v<<8 | uint64(x)
	}
	return v, api.OK
}

// Fields reads bit fields of these widths, and tells where they end.
func Fields(b []byte, at int, widths ...int) (values []int, end int, e api.Errno) {
	n, e := bytesOf(widths)
	if e != api.OK {
		return nil, 0, e
	}
	defer func() {
		if recover() != nil {
			values, end, e = nil, 0, api.ErrOut
		}
	}()
	return unpack(cut(b, at, n), widths), at + n, api.OK
}

// Pack writes bit fields.
func Pack(widths []int, values []int) ([]byte, api.Errno) {
	n, e := bytesOf(widths)
	if e != api.OK {
		return nil, e
	}
	if len(values) != len(widths) {
		return nil, api.ErrArg
	}
	out := make([]byte, 0, n)
	held, bits := uint64(0), 0
	for i, w := range widths {
		v := values[i]
		if v < 0 || v>>w != 0 {
			return nil, api.ErrValue
		}
		held = held<<w | uint64(v)
		for bits += w; bits >= 8; {
			bits -= 8
			out = append(out, byte(held>>bits))
		}
	}
	return out, api.OK
}

// Window is n of b's bytes, in b's own memory.
func Window(b []byte, at, n int) (w []byte, e api.Errno) {
	if n < 0 {
		return nil, api.ErrArg
	}
	defer func() {
		if recover() != nil {
			w, e = nil, api.ErrOut
		}
	}()
	return cut(b, at, n), api.OK
}

// cut gives up where a byte is not there, so that what reads its answer need not ask. It measures b by its length:
// the slice expression alone would let the spare room behind b pass.
func cut(b []byte, at, n int) []byte {
	if at < 0 || n > len(b)-at {
		panic(api.ErrOut)
	}
	return b[at : at+n : at+n]
}

// bytesOf tells how many bytes fields of these widths fill.
func bytesOf(widths []int) (int, api.Errno) {
	if len(widths) > api.MaxFields {
		return 0, api.ErrWidths
	}
	bits := 0
	for _, w := range widths {
		if w < 1 || w > maxWidth {
			return 0, api.ErrWidths
		}
		bits += w
	}
	if bits%8 != 0 {
		return 0, api.ErrWidths
	}
	return bits / 8, api.OK
}

// unpack takes b apart. At most 7 bits wait from one field to the next and a field has at most 32, so that held has
// room for all that still count; older ones fall out at its upper end.
func unpack(b []byte, widths []int) []int {
	values := make([]int, len(widths))
	held, bits, next := uint64(0), 0, 0
	for i, w := range widths {
		for ; bits < w; bits += 8 {
			held = held<<8 | uint64(b[next])
			next++
		}
		bits -= w
		values[i] = int(held >> bits & (1<<w - 1))
	}
	return values
}
