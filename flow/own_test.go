package flow_test

import (
	"reflect"
	"testing"

	"weir/api"
	"weir/flow"
	"weir/packet"
)

// roomy is a copy that shares no memory, with written spare room behind each list.
func roomy(v reflect.Value) reflect.Value {
	out := reflect.New(v.Type()).Elem()
	out.Set(v)
	switch v.Kind() {
	case reflect.Struct:
		for i := range v.NumField() {
			out.Field(i).Set(roomy(v.Field(i)))
		}
	case reflect.Slice:
		room := reflect.MakeSlice(v.Type(), v.Len()+3, v.Len()+3)
		for i := range v.Len() {
			room.Index(i).Set(roomy(v.Index(i)))
		}
		for i := v.Len(); i < room.Len(); i++ {
			scrawl(room.Index(i))
		}
		out.Set(room.Slice(0, v.Len()))
	}
	return out
}

// scrawl writes over all that stands in a value, in its lists and in the room behind them.
func scrawl(v reflect.Value) {
	switch v.Kind() {
	case reflect.Struct:
		for i := range v.NumField() {
			scrawl(v.Field(i))
		}
	case reflect.Slice:
		for i := range v.Cap() {
			scrawl(v.Slice(0, v.Cap()).Index(i))
		}
	case reflect.Array:
		for i := range v.Len() {
			scrawl(v.Index(i))
		}
	case reflect.Int:
		v.SetInt(v.Int() ^ 0xee)
	case reflect.Uint8:
		v.SetUint(v.Uint() ^ 0xee)
	case reflect.Bool:
		v.SetBool(!v.Bool())
	}
}

// whole is all that stands in a value, the room behind its lists with it.
func whole(v reflect.Value) []any {
	var l []any
	switch v.Kind() {
	case reflect.Struct:
		for i := range v.NumField() {
			l = append(l, whole(v.Field(i))...)
		}
	case reflect.Slice:
		l = append(l, v.Len(), v.Cap())
		for i := range v.Cap() {
			l = append(l, whole(v.Slice(0, v.Cap()).Index(i))...)
		}
	default:
		l = append(l, v.Interface())
	}
	return l
}

func room(p api.Packet) api.Packet { return roomy(reflect.ValueOf(p)).Interface().(api.Packet) }

// 17.12: Rewrite changes nothing of what it is given, nor the room behind it, and answers new memory, spare room too.
func TestRewriteOwns(t *testing.T) {
	for _, fresh := range carriers() {
		p, x := room(fresh), tup(0, six(8), 0, six(9), 0)
		mine, _ := packet.Tuple(p)
		if x.Proto = mine.Proto; mine.Src.V == 4 {
			x.Src, x.Dst = outside, b
		}
		x.Sport, x.Dport = mine.Sport, mine.Dport
		before := whole(reflect.ValueOf(p))
		q, e := flow.Rewrite(p, x)
		if e != api.OK || !reflect.DeepEqual(whole(reflect.ValueOf(p)), before) {
			t.Errorf("Rewrite has changed %+v, or refused it: %d", p, e)
		}
		kept := room(q)
		scrawl(reflect.ValueOf(&p).Elem())
		if !packet.Same(q, kept) {
			t.Errorf("the answer is in the packet's memory: %+v, was %+v", q, kept)
		}
		p = room(fresh)
		before = whole(reflect.ValueOf(p))
		q, _ = flow.Rewrite(p, x)
		z, _ := flow.Rewrite(p, x)
		scrawl(reflect.ValueOf(&q).Elem())
		if !reflect.DeepEqual(whole(reflect.ValueOf(p)), before) || !packet.Same(z, kept) {
			t.Errorf("who writes into an answer is seen in %+v or in %+v", p, z)
		}
		refused := x
		refused.Proto = 47
		if flow.Rewrite(p, refused); !reflect.DeepEqual(whole(reflect.ValueOf(p)), before) {
			t.Errorf("Rewrite has changed %+v, which it refused", p)
		}
	}
}

// 17.12: no two lists of one answer share memory: what is written into one, and appended to it, is not seen in another.
func TestListsOfTheirOwn(t *testing.T) {
	for _, fresh := range carriers() {
		mine, _ := packet.Tuple(fresh)
		q, _ := flow.Rewrite(fresh, mine)
		for _, l := range byteLists(&q) {
			for i := range (*l)[:cap(*l)] {
				(*l)[:cap(*l)][i] ^= 0xff
			}
			*l = append((*l)[:0:0], (*l)...)
			for i := range *l {
				(*l)[i] ^= 0xff
			}
		}
		if !packet.Same(q, fresh) {
			t.Errorf("lists share memory: %+v, was %+v", q, fresh)
		}
	}
}

// byteLists are the places of all lists of bytes in p.
func byteLists(p *api.Packet) []*[]byte {
	l := []*[]byte{&p.Icmp.Data, &p.Udp.Data, &p.Tcp.Data}
	for _, opts := range [][]api.Opt{p.Ip4.Opts, p.Tcp.Opts} {
		for i := range opts {
			l = append(l, &opts[i].Data)
		}
	}
	for i := range p.Ip6.Exts {
		l = append(l, &p.Ip6.Exts[i].Data)
		for k := range p.Ip6.Exts[i].Opts {
			l = append(l, &p.Ip6.Exts[i].Opts[k].Data)
		}
	}
	return l
}

// 17.12: what Dump tells is new memory, spare room too: whoever writes there is not seen, nor is what comes later.
func TestDumpIsNew(t *testing.T) {
	for n := 1; n < 10; n++ {
		f := table(t, wide)
		for i := range n {
			x := tup(17, a, 5+i, r, 53)
			goesOut(t, f, x, 0, from(x, 5+i))
		}
		want, l := f.Dump(), f.Dump()
		for _, x := range l[len(l):cap(l)] {
			if x != (api.Flow{}) {
				t.Errorf("in the spare room stands %+v", x)
			}
		}
		l = l[:cap(l)]
		for i := range l {
			l[i] = api.Flow{Port: -1, Left: -1}
		}
		holds(t, f, want...)
		ticks(t, f, 0)
		if want[0].Left != 7 {
			t.Errorf("what was told is %+v now", want[0])
		}
		refusesIn(t, f, tup(17, r, 53, outside, 4), 0, api.ErrNoFlow)
		comesIn(t, f, tup(17, r, 53, outside, 5), 0, tup(17, r, 53, a, 5))
	}
}
