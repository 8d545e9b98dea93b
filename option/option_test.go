package option_test

import (
	"bytes"
	"slices"
	"testing"

	"weir/api"
	"weir/option"
)

func opt(kind int, data ...byte) api.Opt { return api.Opt{Kind: kind, Data: data} }

func same(a, b []api.Opt) bool {
	return slices.EqualFunc(a, b, func(x, y api.Opt) bool { return x.Kind == y.Kind && bytes.Equal(x.Data, y.Data) })
}

// 6.1, 9.4
func TestRead(t *testing.T) {
	rows := []struct {
		b    []byte
		want []api.Opt
		ok   bool
	}{
		{nil, nil, true}, {[]byte{1, 7, 3, 4, 1, 255, 2}, []api.Opt{opt(7, 4), opt(255)}, true}, {[]byte{2, 2, 0, 2}, []api.Opt{opt(2)}, true}, {make([]byte, 40), nil, true},
		{make([]byte, 41), nil, false}, {[]byte{7}, nil, false}, {[]byte{7, 1}, nil, false}, {[]byte{7, 3}, nil, false}, {[]byte{7, 2, 7, 0}, nil, false},
	}
	for i, r := range rows {
		if l, ok := option.Read(r.b); ok != r.ok || !same(l, r.want) || !ok && l != nil {
			t.Errorf("%d: %v, %t", i, l, ok)
		}
	}
}

// 6.2, 9.5
func TestPut(t *testing.T) {
	rows := []struct {
		l    []api.Opt
		want []byte
		ok   bool
	}{
		{nil, nil, true}, {[]api.Opt{opt(2, 1), opt(255)}, []byte{2, 3, 1, 255, 2, 0, 0, 0}, true}, {[]api.Opt{opt(9, make([]byte, 38)...)}, append([]byte{9, 40}, make([]byte, 38)...), true},
		{[]api.Opt{opt(1)}, nil, false}, {[]api.Opt{opt(256)}, nil, false}, {[]api.Opt{opt(9, make([]byte, 39)...)}, nil, false}, {slices.Repeat([]api.Opt{opt(9)}, 21), nil, false},
	}
	for i, r := range rows {
		if b, ok := option.Put(r.l); ok != r.ok || !bytes.Equal(b, r.want) || !ok && b != nil {
			t.Errorf("%d: %x, %t", i, b, ok)
		}
	}
}
