package desk_test

import (
	"bytes"
	"fmt"
	"slices"
	"strings"
	"sync"
	"testing"
	"unsafe"

	"weir/api"
	"weir/desk"
)

// span is where in memory a list lies, with its spare room.
type span struct{ from, to uintptr }

func spanOf[T any](l []T) []span {
	if cap(l) == 0 {
		return nil
	}
	var one T
	from := uintptr(unsafe.Pointer(unsafe.SliceData(l)))
	return []span{{from, from + uintptr(cap(l))*unsafe.Sizeof(one)}}
}

func framesSpans(l []api.Capture) []span {
	s := spanOf(l)
	for _, c := range l {
		s = append(s, spanOf(c.Data)...)
	}
	return s
}

func configSpans(c api.Config) []span {
	return slices.Concat(spanOf(c.Ports), spanOf(c.Routes), spanOf(c.Rules), spanOf(c.Classes))
}

// apart fails if two of the spans have memory in common.
func apart(t *testing.T, parts ...[]span) {
	t.Helper()
	l := slices.Concat(parts...)
	slices.SortFunc(l, func(a, b span) int {
		if a.from < b.from {
			return -1
		}
		return 1
	})
	for i := 1; i < len(l); i++ {
		if l[i].from < l[i-1].to {
			t.Fatal("two lists share memory")
		}
	}
}

// 20.10: answers are new memory, spare room too, and share none with what was handed in.
func TestNewMemory(t *testing.T) {
	for seed := range int64(200) {
		d := rolled(seed)
		l := d.frames()
		b, _ := desk.WriteCapture(l...)
		b2, _ := desk.WriteCapture(l...)
		m, _, _ := desk.ReadCapture(b)
		m2, _, _ := desk.ReadCapture(b)
		apart(t, framesSpans(l), spanOf(b), spanOf(b2), framesSpans(m), framesSpans(m2))
	}
	c, _, _, _ := desk.Config(whole)
	c2, _, _, _ := desk.Config(whole)
	apart(t, configSpans(c), configSpans(c2))
}

// 20.10: what is handed in is neither changed nor kept, nor is the spare room behind it.
func TestNothingIsKept(t *testing.T) {
	roomy := func() api.Config {
		c := wholeConfig()
		c.Ports = append(slices.Grow(c.Ports, 3), api.PortConfig{MTU: 77})[:4]
		c.Routes = append(slices.Grow(c.Routes, 3), api.Route{Port: 77})[:3]
		c.Rules = append(slices.Grow(c.Rules, 3), "spare")[:2]
		c.Classes = append(slices.Grow(c.Classes, 3), api.Class{Items: 77})[:2]
		return c
	}
	told := func(c api.Config) string {
		return fmt.Sprintf("%+v %+v %+v %+v %+v", c, c.Ports[:5], c.Routes[:4], c.Rules[:3], c.Classes[:3])
	}
	c := roomy()
	prints(t, c, whole)
	d, _ := desk.New(c)
	if told(c) != told(roomy()) {
		t.Errorf("what was handed in is now %s", told(c))
	}
	clear(c.Ports)
	clear(c.Routes)
	clear(c.Rules)
	clear(c.Classes)
	e := made(t, whole)
	r := rolled(1)
	for range 400 {
		line := r.line()
		does(t, d, line, e.Do(line))
	}
	l := r.frames()
	for len(l) == 0 {
		l = r.frames()
	}
	b, _ := desk.WriteCapture(l...)
	room := append(bytes.Clone(b), "spare"...)
	m, _, _ := desk.ReadCapture(room[:len(b)])
	if string(room) != string(b)+"spare" {
		t.Error("what was handed in was changed")
	}
	clear(room)
	if !alike(l, m) {
		t.Error("what was handed in is kept")
	}
}

// 20.10: two desks have nothing in common, and what one has told stays as it was.
func TestDesksAreApart(t *testing.T) {
	a, b := made(t, whole), made(t, whole)
	does(t, a, "refill 0 1", "1", "arrive 0 ff", "ok", "tick 5", "ok")
	does(t, b, "counts", "in 0 out 0 used 0 made 0", "capture", "5745495243415031", "refill 0 1", "1", "arrive 0 ff", "ok", "capture", "5745495243415031"+"0000000000000001"+"ff")
	does(t, a, "refill 0 1", "1", "arrive 0 ee", "ok", "capture", "5745495243415031"+"0000000000000001"+"ff"+"0000000500000001"+"ee")
}

// 20.10: whatever comes, every call ends and none panics.
func TestAnything(t *testing.T) {
	words := []string{"arrive", "refill", "poll", "tick", "drain", "counts", "kept", "neighbours", "flows", "normal", "capture", "0", "1", "-", "ff", "00", "268435456", "x", "#", "é", "\xff", "\n", "port", "rule", "nat"}
	d := made(t, whole)
	for seed := range int64(3000) {
		r := rolled(seed)
		b := make([]byte, r.Intn(60))
		r.Read(b)
		text := string(b)
		desk.Config(text)
		d.Do(text)
		desk.Run(least, text)
		desk.ReadCapture(b)
		desk.ReadCapture(append([]byte(mark), b...))
		var l []string
		for range r.Intn(5) {
			l = append(l, pick(r, words...))
		}
		line := strings.Join(l, " ")
		if got := d.Do(line); strings.ContainsAny(got, "\n\r") {
			t.Errorf("Do(%q) = %q: more than a line", line, got)
		}
		desk.Config(line)
	}
	for _, n := range []int{0, 1, -1, 1 << 62, -1 << 63} {
		x := api.Prefix{IP: api.IP{V: n}, Len: n}
		desk.PrintConfig(api.Config{Ports: []api.PortConfig{{MTU: n, Vid: n, Rx: n, Tx: n, Pool: n, Size: n, Net4: x, Net6: x}}, Routes: []api.Route{{Prefix: x, Port: n}}, Nat: n})
		desk.PrintConfig(with(wholeConfig(), func(c *api.Config) { c.Nat = n }))
		desk.PrintConfig(with(wholeConfig(), func(c *api.Config) { c.Routes[0].Port = n }))
		desk.PrintConfig(with(wholeConfig(), func(c *api.Config) { c.Ports[0].Net4 = x }))
	}
}

// 20.10: calls side by side answer what they do alone.
func TestSideBySide(t *testing.T) {
	r := rolled(7)
	var script strings.Builder
	for range 100 {
		script.WriteString(r.line() + "\n")
	}
	want, e := desk.Run(whole, script.String())
	if e != api.OK {
		t.Fatal(e)
	}
	var group sync.WaitGroup
	for range 8 {
		group.Go(func() {
			if got, e := desk.Run(whole, script.String()); e != api.OK || got != want {
				t.Errorf("Run = %s, %d", short(got), e)
			}
		})
	}
	group.Wait()
}
