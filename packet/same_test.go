package packet_test

import (
	"math/rand"
	"reflect"
	"testing"

	"weir/api"
	"weir/packet"
)

// full is a packet in which each list has something, and each list in it too; no packet may be so.
func full() api.Packet {
	opts := func() []api.Opt { return []api.Opt{opt(1, 2, 3), opt(4, 5)} }
	return api.Packet{
		Tags: []api.Tag{{TPID: 1}, {VID: 2}},
		Ip4:  api.Ip4{Opts: opts(), Data: []byte{1, 2}},
		Ip6:  api.Ip6{Exts: []api.Ext{{Opts: opts(), Data: []byte{3}}, {Kind: 43, Opts: opts(), Data: []byte{4}}}, Data: []byte{5}},
		Icmp: api.Icmp{Data: []byte{6}}, Udp: api.Udp{Data: []byte{7}}, Tcp: api.Tcp{Opts: opts(), Data: []byte{8}},
	}
}

func sameBothWays(t *testing.T, a, b api.Packet, want bool) {
	t.Helper()
	if packet.Same(a, b) != want || packet.Same(b, a) != want {
		t.Errorf("Same(%+v, %+v) is not %t", a, b, want)
	}
}

// 10.7: each field of each part counts, and each element of each list; whether a packet may be is not asked.
func TestSame(t *testing.T) {
	fields := 0
	for _, p := range append(basics(), full(), api.Packet{}) {
		q := copyOf(reflect.ValueOf(p), 5)
		sameBothWays(t, p, q.Interface().(api.Packet), true)
		for _, leaf := range everyLeaf(q) {
			fields++
			if leaf.Kind() == reflect.Slice {
				old := leaf.Slice(0, leaf.Len())
				leaf.Set(reflect.Append(leaf.Slice3(0, leaf.Len(), leaf.Len()), reflect.Zero(leaf.Type().Elem())))
				sameBothWays(t, p, q.Interface().(api.Packet), false)
				if leaf.Set(old); old.Len() > 0 {
					leaf.Set(old.Slice(0, old.Len()-1))
					sameBothWays(t, p, q.Interface().(api.Packet), false)
				}
				leaf.Set(old)
				continue
			}
			scrawl(leaf)
			sameBothWays(t, p, q.Interface().(api.Packet), false)
			scrawl(leaf)
		}
		sameBothWays(t, p, q.Interface().(api.Packet), true)
	}
	if fields < 1000 {
		t.Errorf("%d fields", fields)
	}
}

// everyLeaf are all numbers, marks, bytes and lists that stand in a value.
func everyLeaf(v reflect.Value) []reflect.Value {
	var l []reflect.Value
	switch v.Kind() {
	case reflect.Struct:
		for i := range v.NumField() {
			l = append(l, everyLeaf(v.Field(i))...)
		}
	case reflect.Slice:
		l = append(l, v)
		fallthrough
	case reflect.Array:
		for i := range v.Len() {
			l = append(l, everyLeaf(v.Index(i))...)
		}
	default:
		l = append(l, v)
	}
	return l
}

// 10.7: nil and empty lists are the same, at each depth; the room behind them does not matter.
func TestEmptyIsNil(t *testing.T) {
	empty := api.Packet{Tags: []api.Tag{}, Ip4: api.Ip4{Opts: []api.Opt{}, Data: []byte{}}, Ip6: api.Ip6{Exts: []api.Ext{}, Data: make([]byte, 0, 9)}, Icmp: api.Icmp{Data: []byte{}}, Udp: api.Udp{Data: []byte{}}, Tcp: api.Tcp{Opts: []api.Opt{}, Data: []byte{}}}
	sameBothWays(t, empty, api.Packet{}, true)
	deep := func(data []byte, opts []api.Opt) api.Packet {
		return api.Packet{
			Ip4: api.Ip4{Opts: []api.Opt{{Kind: 1, Data: data}}}, Tcp: api.Tcp{Opts: []api.Opt{{Data: data}}},
			Ip6: api.Ip6{Exts: []api.Ext{{Opts: opts, Data: data}, {Opts: []api.Opt{{Data: data}}}}},
		}
	}
	sameBothWays(t, deep(nil, nil), deep([]byte{}, []api.Opt{}), true)
	sameBothWays(t, deep(nil, nil), deep(nil, make([]api.Opt, 1)), false)
	sameBothWays(t, deep(nil, nil), api.Packet{}, false)
}

// 10.7
func TestSameOfSome(t *testing.T) {
	r := rand.New(rand.NewSource(12))
	for range 3000 {
		p := somePacket(r)
		for _, q := range []api.Packet{turned(r, p, 1), somePacket(r), bare(p)} {
			if packet.Same(p, q) != same(p, q) || packet.Same(q, p) != same(p, q) {
				t.Fatalf("Same(%+v, %+v) = %t", p, q, !same(p, q))
			}
		}
	}
}
