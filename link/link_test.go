package link_test

import (
	"bytes"
	"math"
	"math/rand"
	"slices"
	"testing"

	"weir/api"
	"weir/link"
)

// 5.1
func TestCheck(t *testing.T) {
	far := []int{math.MinInt, -1 << 32, -4096, -8, -1, 1 << 16, 1<<16 + 5, 1 << 32, 1<<32 + 5, math.MaxInt}
	type row struct {
		f    api.Frame
		want api.Errno
	}
	rows := []row{
		{frame(0x800, nil), api.OK}, {frame(0x600, nil), api.OK}, {frame(0x5ff, nil), api.ErrType}, {frame(0xffff, nil), api.OK}, {frame(0x10000, nil), api.ErrType}, {frame(0, nil), api.ErrType},
		{frame(0x80ff, nil), api.OK}, {frame(0x8100, nil), api.ErrType}, {frame(0x8101, nil), api.OK}, {frame(0x88a7, nil), api.OK}, {frame(0x88a8, nil), api.ErrType}, {frame(0x88a9, nil), api.OK}, {frame(0x9100, nil), api.OK},
		{frame(0x800, nil, tag(0x8100, 0, false, 0)), api.OK}, {frame(0x800, nil, tag(0x88a8, 7, true, 4094)), api.OK}, {frame(0x800, nil, tag(0x9100, 0, false, 1)), api.ErrTags}, {frame(0x800, nil, tag(0, 0, false, 1)), api.ErrTags},
		{frame(0x800, nil, tag(0x8100, 8, false, 1)), api.ErrTag}, {frame(0x800, nil, tag(0x8100, 0, false, 4095)), api.ErrTag}, {frame(0x800, nil, tag(0x8100, 0, false, 4096)), api.ErrTag},
		{frame(0x800, nil, tag(0x8100, 0, false, 1), tag(0x8100, 0, false, 2)), api.OK}, {frame(0x800, nil, tag(0x88a8, 0, false, 1), tag(0x8100, 0, false, 2)), api.OK}, {frame(0x800, nil, tag(0x8100, 0, false, 1), tag(0x88a8, 0, false, 2)), api.ErrTags}, {frame(0x800, nil, tag(0x88a8, 0, false, 1), tag(0x88a8, 0, false, 2)), api.ErrTags},
		{frame(0x800, nil, tag(0x9100, 0, false, 1), tag(0x8100, 0, false, 2)), api.ErrTags}, {frame(0x800, nil, tag(0x8100, 0, false, 1), tag(0x9100, 0, false, 2)), api.ErrTags},
		{frame(0x800, nil, tag(0x8100, 0, false, 1), tag(0x8100, 8, false, 2)), api.ErrTag}, {frame(0x800, nil, tag(0x8100, 0, false, 1), tag(0x8100, 0, false, 4095)), api.ErrTag},
		{frame(0x800, nil, tag(0x8100, 0, false, 1), tag(0x8100, 0, false, 2), tag(0x8100, 0, false, 3)), api.ErrTags}, {frame(0x800, nil, make([]api.Tag, 1000)...), api.ErrTags},
	}
	for _, n := range far {
		rows = append(rows, row{frame(n, nil), api.ErrType}, row{frame(0x800, nil, tag(n, 0, false, 1)), api.ErrTags}, row{frame(0x800, nil, tag(0x8100, n, false, 1)), api.ErrTag}, row{frame(0x800, nil, tag(0x8100, 0, false, n)), api.ErrTag}, row{frame(0x800, nil, tag(0x8100, 0, false, 1), tag(0x8100, n, true, 1)), api.ErrTag})
	}
	for _, n := range []int{0x8100, 0x88a8, 0x800} { // the lower bits are right, but they are not all
		rows = append(rows, row{frame(n+1<<16, nil), api.ErrType}, row{frame(0x800, nil, tag(n+1<<16, 0, false, 1)), api.ErrTags}, row{frame(0x800, nil, tag(n-1<<16, 0, false, 1)), api.ErrTags})
	}
	for i, r := range rows {
		if e := link.Check(r.f); e != r.want {
			t.Errorf("%d: Check(%v) = %d, want %d", i, r.f, e, r.want)
		}
		if b, e := link.Serialise(r.f); e != r.want || (b == nil) != (e != api.OK) {
			t.Errorf("%d: Serialise(%v) = %x, %d, want %d", i, r.f, b, e, r.want)
		}
	}
}

// 5.1: how long a frame may be, with no tag, one and two.
func TestCheckLong(t *testing.T) {
	for n, head := range []int{14, 18, 22} {
		f := frame(0x800, make([]byte, 65535-head), []api.Tag{tag(0x8100, 0, false, 1), tag(0x8100, 0, false, 1)}[:n]...)
		if b, e := link.Serialise(f); link.Check(f) != api.OK || e != api.OK || len(b) != 65535 {
			t.Errorf("%d tags: %d bytes, %d", n, len(b), e)
		}
		f.Data = append(f.Data, 0)
		if b, e := link.Serialise(f); link.Check(f) != api.ErrLong || e != api.ErrLong || b != nil {
			t.Errorf("%d tags: %d bytes, %d", n, len(b), e)
		}
	}
}

// 5.1, 5.2: of several faults the first in the document's order is told.
func TestCheckOrder(t *testing.T) {
	faults := []struct {
		lay  func(*api.Frame)
		want api.Errno
	}{
		{func(f *api.Frame) { f.Src[0] |= 1 }, api.ErrSource},
		{func(f *api.Frame) { f.Tags = append(f.Tags, tag(0x8100, 0, false, 1)) }, api.ErrTags},
		{func(f *api.Frame) { f.Tags[1].TPID = 0x88a8 }, api.ErrTags},
		{func(f *api.Frame) { f.Tags[0].TPID = 0x9100 }, api.ErrTags},
		{func(f *api.Frame) { f.Tags[0].VID = 4095 }, api.ErrTag},
		{func(f *api.Frame) { f.Tags[1].PCP = 8 }, api.ErrTag},
		{func(f *api.Frame) { f.Type = 0x5ff }, api.ErrType},
		{func(f *api.Frame) { f.Data = make([]byte, 65536) }, api.ErrLong},
	}
	for set := range 1 << len(faults) {
		f := frame(0x800, nil, tag(0x88a8, 1, false, 1), tag(0x8100, 1, true, 2))
		want := api.OK
		for i := len(faults) - 1; i >= 0; i-- {
			if set>>i&1 == 1 {
				faults[i].lay(&f)
				want = faults[i].want
			}
		}
		if e := link.Check(f); e != want {
			t.Errorf("faults %b: Check = %d, want %d", set, e, want)
		}
		if b, e := link.Serialise(f); e != want || e != api.OK && b != nil {
			t.Errorf("faults %b: Serialise = %d, want %d", set, e, want)
		}
	}
}

// 5.2, 5.3: the bytes of a frame, written and read.
func TestBytesOfFrames(t *testing.T) {
	rows := []struct {
		b []byte
		f api.Frame
	}{
		{headed(0x08, 0x06, 1, 2), frame(0x806, []byte{1, 2})},
		{headed(0x81, 0, 0xa0, 5, 8, 0), frame(0x800, nil, tag(0x8100, 5, false, 5))},
		{headed(0x88, 0xa8, 0x10, 1, 0x81, 0, 0, 2, 0x86, 0xdd), frame(0x86dd, nil, tag(0x88a8, 0, true, 1), tag(0x8100, 0, false, 2))},
		{headed(0x88, 0xa8, 0xff, 0xfe, 0x08, 0x00, 0x81, 0x00), frame(0x800, []byte{0x81, 0}, tag(0x88a8, 7, true, 4094))},
		{headed(0x81, 0x00, 0x00, 0x00, 0x81, 0x00, 0xef, 0xfe, 0x06, 0x00), frame(0x600, nil, tag(0x8100, 0, false, 0), tag(0x8100, 7, false, 4094))},
		{headed(0x06, 0x00), frame(0x600, nil)}, {headed(0xff, 0xff, 0), frame(0xffff, []byte{0})}, {headed(0x91, 0x00, 0x00, 0x01, 0x08, 0x00), frame(0x9100, []byte{0, 1, 8, 0})},
		{[]byte{1, 2, 3, 4, 5, 6, 0xfe, 0xff, 0xff, 0xff, 0xff, 0xff, 0x80, 0x00}, api.Frame{Dst: api.Mac{1, 2, 3, 4, 5, 6}, Src: api.Mac{0xfe, 0xff, 0xff, 0xff, 0xff, 0xff}, Type: 0x8000}},
		{append(make([]byte, 12), 0x08, 0x00), api.Frame{Type: 0x800}},
	}
	for i, r := range rows {
		if f, e := link.Parse(r.b); e != api.OK || !same(f, r.f) {
			t.Errorf("%d: Parse(%x) = %v, %d", i, r.b, f, e)
		}
		if b, e := link.Serialise(r.f); e != api.OK || !bytes.Equal(b, r.b) {
			t.Errorf("%d: Serialise(%v) = %x, %d", i, r.f, b, e)
		}
	}
}

// 5.3
func TestParseRefuses(t *testing.T) {
	long := make([]byte, 65536)
	copy(long, headed(8, 0))
	rows := []struct {
		b    []byte
		want api.Errno
	}{
		{nil, api.ErrRunt}, {[]byte{}, api.ErrRunt}, {headed(), api.ErrRunt}, {headed(8), api.ErrRunt}, {headed(0x81), api.ErrRunt}, {append(slices.Clone(one[:]), all[:]...), api.ErrRunt},
		{slices.Concat(one[:], all[:], []byte{8, 0}), api.ErrSource}, {slices.Concat(one[:], all[:], []byte{0, 0}), api.ErrSource}, {slices.Concat(one[:], []byte{1, 0, 0, 0, 0, 0, 8, 0}), api.ErrSource}, {slices.Concat(one[:], all[:], []byte{0x81, 0}), api.ErrSource},
		{headed(0x81, 0), api.ErrRunt}, {headed(0x88, 0xa8), api.ErrRunt}, {headed(0x81, 0, 0x0f), api.ErrRunt}, {headed(0x81, 0, 0x0f, 0xff), api.ErrRunt}, {headed(0x81, 0, 0x0f, 0xff, 8), api.ErrRunt}, {headed(0x81, 0, 0, 1, 8), api.ErrRunt},
		{headed(0x81, 0, 0x0f, 0xff, 8, 0), api.ErrTag}, {headed(0x88, 0xa8, 0xff, 0xff, 8, 0), api.ErrTag}, {headed(0x81, 0, 0x0f, 0xff, 0, 0), api.ErrTag}, {headed(0x81, 0, 0x0f, 0xff, 0x88, 0xa8), api.ErrTag}, {headed(0x81, 0, 0x0f, 0xff, 0x81, 0), api.ErrTag},
		{headed(0x81, 0, 0, 1, 0x81, 0), api.ErrRunt}, {headed(0x81, 0, 0, 1, 0x81, 0, 0, 1, 8), api.ErrRunt}, {headed(0x81, 0, 0, 1, 0x81, 0, 0x0f, 0xff, 8, 0), api.ErrTag},
		{headed(0x81, 0, 0, 1, 0x88, 0xa8), api.ErrTags}, {headed(0x81, 0, 0, 1, 0x88, 0xa8, 0, 2, 8, 0), api.ErrTags}, {headed(0x88, 0xa8, 0, 1, 0x88, 0xa8, 0, 2, 8, 0), api.ErrTags}, {headed(0x88, 0xa8, 0, 1, 0x88, 0xa8, 0x0f, 0xff, 0, 0), api.ErrTags},
		{headed(0x81, 0, 0, 1, 0x81, 0, 0, 2, 0x81, 0), api.ErrTags}, {headed(0x81, 0, 0, 1, 0x81, 0, 0, 2, 0x88, 0xa8), api.ErrTags}, {headed(0x81, 0, 0, 1, 0x81, 0, 0, 2, 0x81, 0, 0, 3, 8, 0), api.ErrTags}, {headed(0x88, 0xa8, 0, 1, 0x81, 0, 0, 2, 0x81, 0, 0x0f, 0xff, 0, 0), api.ErrTags},
		{headed(0, 0x2e), api.ErrType}, {headed(0x05, 0xff), api.ErrType}, {headed(0, 0), api.ErrType}, {headed(0x81, 0, 0, 1, 0x05, 0xff), api.ErrType}, {headed(0x81, 0, 0, 1, 0x81, 0, 0, 1, 0, 0), api.ErrType},
		{long, api.ErrLong}, {make([]byte, 65536), api.ErrLong}, {bytes.Repeat([]byte{0xff}, 70000), api.ErrLong},
	}
	for i, r := range rows {
		if f, e := link.Parse(r.b); e != r.want || !zero(f) {
			t.Errorf("%d: Parse(%x) = %v, %d, want %d", i, r.b[:min(len(r.b), 30)], f, e, r.want)
		}
	}
	if f, e := link.Parse(long[:65535]); e != api.OK || len(f.Data) != 65521 {
		t.Errorf("65535 bytes: %d, %d bytes of data", e, len(f.Data))
	}
}

// 5.3: each number that may stand behind the addresses, behind a tag, and behind two.
func TestEachType(t *testing.T) {
	for v := range 1 << 16 {
		for _, lead := range [][]byte{nil, {0x81, 0, 0, 1}, {0x88, 0xa8, 0, 1}, {0x88, 0xa8, 0, 1, 0x81, 0, 0, 2}} {
			b := headed(slices.Concat(lead, word(v), []byte{0, 9, 8, 0, 7})...)
			f, e := link.Parse(b)
			g, want := model(b)
			if e != want || !same(f, g) {
				t.Fatalf("Parse(%x) = %v, %d, want %v, %d", b, f, e, g, want)
			}
		}
	}
}

// 5.2, 5.3: each tag there is.
func TestEachTag(t *testing.T) {
	for v := range 1 << 16 {
		want := tag(0x88a8, v/8192, v/4096%2 == 1, v%4096)
		b := headed(slices.Concat([]byte{0x88, 0xa8}, word(v), []byte{8, 0})...)
		f, e := link.Parse(b)
		if v%4096 == 4095 {
			if e != api.ErrTag || link.Check(frame(0x800, nil, want)) != api.ErrTag {
				t.Fatalf("tag %04x: %v, %d", v, f, e)
			}
			continue
		}
		if e != api.OK || len(f.Tags) != 1 || f.Tags[0] != want {
			t.Fatalf("tag %04x: %v, %d", v, f, e)
		}
		if w, e := link.Serialise(frame(0x800, nil, want)); e != api.OK || !bytes.Equal(w, b) {
			t.Fatalf("tag %04x: %x, %d", v, w, e)
		}
	}
}

// 5.3: each beginning of a frame, whatever stands in the room behind it.
func TestEachCut(t *testing.T) {
	b := headed(0x88, 0xa8, 0x10, 1, 0x81, 0, 0, 2, 0x86, 0xdd, 1, 2)
	for n := range len(b) + 1 {
		f, e := link.Parse(b[:n])
		g, want := model(slices.Clone(b[:n]))
		if e != want || !same(f, g) {
			t.Errorf("%d bytes: %v, %d, want %v, %d", n, f, e, g, want)
		}
	}
}

// 5.3: Data is a window.
func TestDataIsAWindow(t *testing.T) {
	for _, head := range [][]byte{headed(8, 0), headed(0x81, 0, 0, 1, 8, 0), headed(0x88, 0xa8, 0, 1, 0x81, 0, 0, 1, 8, 0)} {
		for n := range 4 {
			b, whole := roomy(slices.Concat(head, []byte{1, 2, 3}[:n]))
			kept := slices.Clone(whole)
			f, e := link.Parse(b)
			if e != api.OK || len(f.Data) != n || cap(f.Data) != n {
				t.Fatalf("%x: %d, %d bytes of data, capacity %d", b, e, len(f.Data), cap(f.Data))
			}
			if !bytes.Equal(whole, kept) {
				t.Fatalf("Parse wrote into %x", b)
			}
			_ = append(f.Data, 77, 78)
			if !bytes.Equal(whole, kept) {
				t.Errorf("what was appended to Data stands behind %x", b)
			}
			for i := range f.Data {
				f.Data[i] = 90
				if b[len(head)+i] != 90 {
					t.Errorf("Data %d is not in the memory of %x", i, b)
				}
				b[len(head)+i] = 91
				if f.Data[i] != 91 {
					t.Errorf("Data %d does not see what is written into %x", i, b)
				}
			}
		}
	}
}

// 5.3, 5.4
func TestOneFormOfBytes(t *testing.T) {
	r := rand.New(rand.NewSource(5))
	counts := map[api.Errno]int{}
	for range 200000 {
		b, whole := roomy(someBytes(r))
		kept := slices.Clone(whole)
		f, e := link.Parse(b)
		g, want := model(b)
		if e != want || !same(f, g) {
			t.Fatalf("Parse(%x) = %v, %d, want %v, %d", b, f, e, g, want)
		}
		counts[e]++
		if e == api.OK {
			w, e := link.Serialise(f)
			if e != api.OK || !bytes.Equal(w, b) {
				t.Fatalf("Serialise(Parse(%x)) = %x, %d", b, w, e)
			}
		} else if !zero(f) {
			t.Fatalf("Parse(%x) = %v beside %d", b, f, e)
		}
		if !bytes.Equal(whole, kept) {
			t.Fatalf("%x was changed", b)
		}
	}
	for _, e := range []api.Errno{api.OK, api.ErrRunt, api.ErrSource, api.ErrTags, api.ErrTag, api.ErrType} {
		if counts[e] < 1000 {
			t.Errorf("error %d came only %d times", e, counts[e])
		}
	}
}

// 5.4
func TestOneFormOfValues(t *testing.T) {
	r := rand.New(rand.NewSource(6))
	for range 50000 {
		f := someFrame(r)
		b, e := link.Serialise(f)
		if e != api.OK || link.Check(f) != api.OK {
			t.Fatalf("Serialise(%v): %d", f, e)
		}
		if g, e := link.Parse(b); e != api.OK || !same(f, g) {
			t.Fatalf("Parse(Serialise(%v)) = %v, %d", f, g, e)
		}
	}
}

// 5.5
func TestPad(t *testing.T) {
	for _, n := range []int{0, 1, 13, 14, 15, 58, 59, 60, 61, 62, 1514, 65535, 65536, 100000} {
		b, whole := roomy(bytes.Repeat([]byte{0xa5}, n))
		kept := slices.Clone(whole)
		p := link.Pad(b)
		want := slices.Concat(b, make([]byte, max(0, 60-n)))
		if !bytes.Equal(p, want) {
			t.Errorf("Pad(%d bytes) has %d", n, len(p))
		}
		for i := range p[:cap(p)] {
			p[:cap(p)][i]++
		}
		if !bytes.Equal(whole, kept) {
			t.Errorf("Pad(%d bytes) shares their memory", n)
		}
	}
	if p := link.Pad(nil); !bytes.Equal(p, make([]byte, 60)) {
		t.Errorf("Pad(nil) = %x", p)
	}
}

// 5.6
func TestGroup(t *testing.T) {
	for first := range 256 {
		for _, rest := range []byte{0, 1, 0xff} {
			m := api.Mac{byte(first), rest, rest, rest, rest, rest}
			if link.Group(m) != (first%2 == 1) {
				t.Errorf("Group(%x) = %t", m, link.Group(m))
			}
		}
	}
	if !link.Group(all) || link.Group(one) || link.Group(api.Mac{}) {
		t.Error("of all, of one, of none")
	}
}

// 5.10: Serialise and Check leave the frame, and what is behind its lists.
func TestFrameIsLeft(t *testing.T) {
	data, whole := roomy([]byte{1, 2, 3})
	tags := []api.Tag{tag(0x88a8, 1, true, 2), tag(0x8100, 3, false, 4), tag(5, 6, true, 7)}
	f := frame(0x800, data, tags[:2]...)
	keptData, keptTags := slices.Clone(whole), slices.Clone(tags)
	b, e := link.Serialise(f)
	if e != api.OK || link.Check(f) != api.OK {
		t.Fatal(e)
	}
	for i := range b[:cap(b)] {
		b[:cap(b)][i] = 0xee
	}
	if !bytes.Equal(whole, keptData) || !slices.Equal(tags, keptTags) {
		t.Error("Serialise's answer shares the frame's memory")
	}
	if c, e := link.Serialise(f); e != api.OK || !bytes.Equal(c, headed(0x88, 0xa8, 0x30, 2, 0x81, 0, 0x60, 4, 8, 0, 1, 2, 3)) {
		t.Errorf("the second time: %x, %d", c, e)
	}
}

// 5.10: two answers have nothing in common but the bytes that were handed in.
func TestTagsAreNew(t *testing.T) {
	b := headed(0x88, 0xa8, 0x10, 1, 0x81, 0, 0, 2, 0x86, 0xdd)
	kept := slices.Clone(b)
	f, _ := link.Parse(b)
	g, _ := link.Parse(b)
	for i := range f.Tags[:cap(f.Tags)] {
		f.Tags[:cap(f.Tags)][i] = api.Tag{}
	}
	want := []api.Tag{tag(0x88a8, 0, true, 1), tag(0x8100, 0, false, 2)}
	if h, _ := link.Parse(b); !slices.Equal(g.Tags, want) || !slices.Equal(h.Tags, want) || !bytes.Equal(b, kept) {
		t.Errorf("%v, %v, %x", g.Tags, h.Tags, b)
	}
}
