package route_test

import (
	"iter"
	"slices"
	"testing"

	"weir/api"
	"weir/route"
)

// 14.6: version 4 ahead of 6 whatever the bytes are, by rising bytes, then by rising length; in whatever order they were added.
func TestOrder(t *testing.T) {
	var l []api.Route
	for i, s := range []string{
		"0.0.0.0/0", "0.0.0.0/1", "0.0.0.0/32", "0.0.0.1/32", "10.0.0.0/7", "10.0.0.0/8", "10.0.0.0/16", "10.0.0.128/32", "10.0.1.0/24", "10.1.0.0/16", "11.0.0.0/8", "127.0.0.0/8", "128.0.0.0/1", "255.255.255.255/32",
		"::/0", "::/128", "::1/128", "1::/16", "1::/64", "1::80/128", "1::100/128", "7f00::/8", "8000::/1", "8000::/2", "ffff::/16", "ffff:ffff:ffff:ffff:ffff:ffff:ffff:ffff/128",
	} {
		l = append(l, to(t, s, i%8, ""))
	}
	holds(t, table(t, l...), l...)
	holds(t, table(t, backwards(l)...), l...)
	for range 20 { // the order of a map is another each time
		holds(t, table(t, l...), l...)
	}
	holds(t, table(t, backwards(full())...), full()...)
}

// 14.6: without a route it is not nil, and gives none.
func TestAllOfNone(t *testing.T) {
	x := route.New()
	s := x.All()
	if s == nil {
		t.Fatal("All() = nil")
	}
	for r := range s {
		t.Errorf("gives %s", text(r))
	}
	r := to(t, "10.0.0.0/8", 1, "")
	adds(t, x, r, api.OK)
	wantSeq(t, s, r)
	drops(t, x, r.Prefix, true)
	if wantSeq(t, s); x.All() == nil {
		t.Error("All() = nil")
	}
}

func wantSeq(t *testing.T, s iter.Seq[api.Route], want ...api.Route) {
	t.Helper()
	if l := slices.Collect(s); !slices.Equal(l, want) {
		t.Errorf("gives %s\nwant %s", texts(l), texts(want))
	}
}

func five(t *testing.T) []api.Route {
	return []api.Route{to(t, "10.0.0.0/8", 1, ""), to(t, "10.0.0.0/16", 2, ""), to(t, "11.0.0.0/8", 3, ""), to(t, "1::/16", 4, ""), to(t, "2::/16", 5, "fe80::1")}
}

// 14.6: the loop's body drops all; the range gives on what it would have given, and the table has none.
func TestDropsWithin(t *testing.T) {
	l := five(t)
	x := table(t, l...)
	var got []api.Route
	for r := range x.All() {
		got = append(got, r)
		for _, d := range l {
			drops(t, x, d.Prefix, len(got) == 1)
		}
		if x.Len() != 0 {
			t.Errorf("Len() = %d", x.Len())
		}
	}
	if !slices.Equal(got, l) {
		t.Errorf("gives %s", texts(got))
	}
	holds(t, x)
}

// 14.6: the loop's body adds, ahead of and behind what is given; the range does not give it, the table has it.
func TestAddsWithin(t *testing.T) {
	l := five(t)
	x := table(t, l...)
	first, middle, last := to(t, "0.0.0.0/0", 6, ""), to(t, "10.0.0.0/9", 6, ""), to(t, "3::/16", 6, "")
	var got []api.Route
	for r := range x.All() {
		if len(got) == 0 {
			adds(t, x, last, api.OK)
			adds(t, x, first, api.OK)
			adds(t, x, middle, api.OK)
			finds(t, x, ip(t, "10.0.0.1"), l[1], middle, l[0], first)
		}
		got = append(got, r)
	}
	if !slices.Equal(got, l) {
		t.Errorf("gives %s", texts(got))
	}
	holds(t, x, first, l[0], middle, l[1], l[2], l[3], l[4], last)
}

// 14.6: the loop's body puts other routes in the place of those that are to come.
func TestChangesWithin(t *testing.T) {
	l := five(t)
	x := table(t, l...)
	var got, other []api.Route
	for r := range x.All() {
		got = append(got, r)
		if len(got) == 1 {
			for _, r := range l {
				drops(t, x, r.Prefix, true)
				r.Port, r.Via = 7, api.IP{}
				adds(t, x, r, api.OK)
				other = append(other, r)
			}
		}
	}
	if !slices.Equal(got, l) {
		t.Errorf("gives %s", texts(got))
	}
	holds(t, x, other...)
}

// 14.6: left early, and ranged over again from the beginning.
func TestLeftEarly(t *testing.T) {
	l := five(t)
	x := table(t, l...)
	s := x.All()
	for n := range len(l) + 1 {
		var got []api.Route
		for r := range s {
			if len(got) == n {
				break
			}
			got = append(got, r)
		}
		if !slices.Equal(got, l[:n]) {
			t.Errorf("the first %d are %s", n, texts(got))
		}
		n := 0
		s(func(api.Route) bool {
			n++
			return false
		})
		if n != 1 {
			t.Errorf("goes on behind a false: %d", n)
		}
	}
	wantSeq(t, s, l...)
}

// 14.6: within its own loop each range gives what the table holds when it begins.
func TestNested(t *testing.T) {
	l := five(t)
	x := table(t, l...)
	s := x.All()
	var got []api.Route
	for r := range s {
		wantSeq(t, s, l[len(got):]...)
		wantSeq(t, x.All(), l[len(got):]...)
		for inner := range s {
			drops(t, x, inner.Prefix, true)
			break
		}
		got = append(got, r)
		wantSeq(t, s, l[len(got):]...)
	}
	if !slices.Equal(got, l) {
		t.Errorf("gives %s", texts(got))
	}
}

// 14.6: what was asked for once gives later what the table holds then.
func TestLater(t *testing.T) {
	l := five(t)
	x := route.New()
	s := x.All()
	for i, r := range l {
		adds(t, x, r, api.OK)
		wantSeq(t, s, l[:i+1]...)
	}
	for i, r := range l {
		drops(t, x, r.Prefix, true)
		wantSeq(t, s, l[i+1:]...)
	}
}

// 14.6: two ranges of one answer, turn by turn, with changes between; each goes its own way.
func TestTurnByTurn(t *testing.T) {
	l := five(t)
	x := table(t, l...)
	s := x.All()
	one, stopOne := iter.Pull(s)
	defer stopOne()
	two, stopTwo := iter.Pull(s)
	defer stopTwo()
	wantNext(t, one, l[0])
	drops(t, x, l[0].Prefix, true)
	drops(t, x, l[1].Prefix, true)
	wantNext(t, two, l[2])
	wantNext(t, one, l[1])
	wantNext(t, one, l[2])
	adds(t, x, l[0], api.OK)
	drops(t, x, l[4].Prefix, true)
	wantNext(t, two, l[3])
	wantNext(t, two, l[4])
	wantNext(t, one, l[3])
	wantNext(t, one, l[4])
	if r, ok := one(); ok {
		t.Errorf("gives %s", text(r))
	}
	if r, ok := two(); ok {
		t.Errorf("gives %s", text(r))
	}
	wantSeq(t, s, l[0], l[2], l[3])
}

func wantNext(t *testing.T, next func() (api.Route, bool), want api.Route) {
	t.Helper()
	if r, ok := next(); r != want || !ok {
		t.Errorf("gives %s, %v, want %s", text(r), ok, text(want))
	}
}
