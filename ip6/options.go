package ip6

import (
	"weir/api"
	"weir/view"
)

const (
	padding   = 0 // a byte of padding; as the kind of a value: a run of it
	padMany   = 1 // what begins more of it at once
	optHead   = 2 // bytes of an option's kind and length
	maxAtOnce = optHead + maxByte
)

// takeOptions reads options, which fill b just. Where one does not end within b it panics: the reader that has come here is
// deep in the chain, and no header behind it matters any more.
func takeOptions(b []byte) []api.Opt {
	var l []api.Opt
	for c := view.At(b); c.Left() > 0; {
		switch kind := int(need(c, 1)[0]); kind {
		case padding:
			l = joinPadding(l, 1)
		case padMany:
			l = joinPadding(l, optHead+len(optionData(c)))
		default:
			l = append(l, api.Opt{Kind: kind, Data: optionData(c)})
		}
	}
	return l
}

// optionData takes what stands behind an option's kind.
func optionData(c *view.Cursor) []byte { return need(c, int(need(c, 1)[0])) }

// need is the next n bytes; without them the options are none.
func need(c *view.Cursor, n int) []byte {
	w, e := c.Window(n)
	if e != api.OK {
		panic(api.ErrOption6)
	}
	return w
}

// joinPadding has n bytes of padding more: a run goes on, however it is written.
func joinPadding(l []api.Opt, n int) []api.Opt {
	last := len(l) - 1
	if last < 0 || l[last].Kind != padding {
		return append(l, api.Opt{Kind: padding, Data: make([]byte, n)})
	}
	l[last].Data = append(l[last].Data, make([]byte, n)...)
	return l
}

// putOptions writes options that may be.
func putOptions(b *view.Builder, l []api.Opt) {
	for _, o := range l {
		if o.Kind == padding {
			putPadding(b, o.Data)
			continue
		}
		b.Bytes([]byte{byte(o.Kind), byte(len(o.Data))}, o.Data)
	}
}

// putPadding writes a run; its own zeros are those that stand behind each head.
func putPadding(b *view.Builder, run []byte) {
	for len(run) > 0 {
		n := min(len(run), maxAtOnce)
		if n == 1 {
			b.Put(1, padding)
		} else {
			b.Bytes([]byte{padMany, byte(n - optHead)}, run[optHead:n])
		}
		run = run[n:]
	}
}

// optionsMayBe tells whether these may be the options of one header.
func optionsMayBe(l []api.Opt) bool {
	inRun := false
	for _, o := range l {
		isRun := o.Kind == padding
		if isRun && (inRun || !runMayBe(o.Data)) || !isRun && !optionMayBe(o) {
			return false
		}
		inRun = isRun
	}
	return bodyMayBe(optionsSize(l))
}

func optionMayBe(o api.Opt) bool {
	return o.Kind > padMany && o.Kind <= maxByte && len(o.Data) <= maxByte
}

func runMayBe(run []byte) bool {
	for _, v := range run {
		if v != 0 {
			return false
		}
	}
	return len(run) > 0
}

func optionsSize(l []api.Opt) int {
	n := 0
	for _, o := range l {
		n += len(o.Data)
		if o.Kind != padding {
			n += optHead
		}
	}
	return n
}
