package neigh_test

import (
	"fmt"
	"math/rand"
	"slices"
	"strings"
	"testing"

	"weir/api"
	"weir/neigh"
)

// A second reading of the chapter: a list of entries that is kept in order, gone through whole, with one step for each sentence.

type spot struct {
	api.Neighbour
	items []int
}

type model struct {
	api.NeighConfig
	list []*spot
}

// name is a text by which entries stand in order: port and version have one digit, each byte has two.
func (s *spot) name() string { return fmt.Sprintf("%d %d %x", s.Port, s.IP.V, s.IP.A) }

func (o *model) find(port int, ip api.IP) *spot {
	for _, s := range o.list {
		if s.Port == port && s.IP == ip {
			return s
		}
	}
	return nil
}

func (o *model) remove(gone *spot) {
	o.list = slices.DeleteFunc(o.list, func(s *spot) bool { return s == gone })
}

// room tells whether there is room, once the entry that is to give way has done so.
func (o *model) room() bool {
	if len(o.list) < o.Max {
		return true
	}
	var old *spot
	for _, s := range o.list {
		if s.State == api.NStale && (old == nil || s.Age > old.Age) {
			old = s
		}
	}
	o.remove(old)
	return old != nil
}

func (o *model) add(n api.Neighbour, items ...int) {
	o.list = append(o.list, &spot{n, items})
	slices.SortFunc(o.list, func(a, b *spot) int { return strings.Compare(a.name(), b.name()) })
}

func mayNotBe(port int, ip api.IP) bool {
	four := ip.V == 4 && !slices.ContainsFunc(ip.A[4:], func(b byte) bool { return b != 0 })
	return port < 0 || port > 7 || !four && ip.V != 6
}

func (o *model) Want(port int, ip api.IP, item int) (none api.Mac, outcome int, e api.Errno) {
	if mayNotBe(port, ip) {
		return none, api.NRefused, api.ErrArg
	}
	s := o.find(port, ip)
	if s == nil {
		if !o.room() {
			return none, api.NRefused, api.ErrNoNeigh
		}
		o.add(api.Neighbour{Port: port, IP: ip, State: api.NAsked, Tries: 1}, item)
		return none, api.NAsk, api.OK
	}
	if s.State == api.NFresh || s.State == api.NProbed {
		return s.Mac, api.NKnown, api.OK
	}
	if s.State == api.NStale {
		s.State, s.Age, s.Tries = api.NProbed, 0, 1
		return s.Mac, api.NKnownAsk, api.OK
	}
	if len(s.items) >= o.Line {
		return none, api.NRefused, api.ErrWaiting
	}
	s.items = append(s.items, item)
	return none, api.NWait, api.OK
}

func (o *model) Learn(port int, ip api.IP, mac api.Mac, how int) ([]int, api.Errno) {
	if mayNotBe(port, ip) || mac == (api.Mac{}) || mac[0]%2 == 1 || how != api.LAnswer && how != api.LAsk && how != api.LSeen {
		return nil, api.ErrArg
	}
	s := o.find(port, ip)
	if s == nil {
		if how != api.LAsk {
			return nil, api.OK
		}
		if !o.room() {
			return nil, api.ErrNoNeigh
		}
		o.add(api.Neighbour{Port: port, IP: ip, Mac: mac, State: api.NStale})
		return nil, api.OK
	}
	state := api.NFresh
	if how != api.LAnswer {
		if s.State != api.NAsked && s.Mac == mac {
			return nil, api.OK
		}
		state = api.NStale
	}
	items := s.items
	*s = spot{Neighbour: api.Neighbour{Port: port, IP: ip, Mac: mac, State: state}}
	return items, api.OK
}

func (o *model) Tick() (asks []api.Ask, lost []int) {
	for _, s := range o.list {
		if s.Age++; s.State == api.NStale && s.Age > api.MaxAge {
			s.Age = api.MaxAge
		}
	}
	for _, s := range o.list {
		if s.State == api.NFresh && s.Age == o.Fresh {
			s.State, s.Age = api.NStale, 0
		}
	}
	for _, s := range slices.Clone(o.list) {
		if s.State != api.NAsked && s.State != api.NProbed || s.Age != o.Every {
			continue
		}
		if s.Tries < o.Tries {
			s.Tries, s.Age = s.Tries+1, 0
			asks = append(asks, api.Ask{Port: s.Port, IP: s.IP, Mac: s.Mac, Try: s.Tries})
		} else {
			lost = append(lost, s.items...)
			o.remove(s)
		}
	}
	return asks, lost
}

func (o *model) All() []api.Neighbour {
	var l []api.Neighbour
	for _, s := range o.list {
		n := s.Neighbour
		n.Waiting = len(s.items)
		l = append(l, n)
	}
	return l
}

// dice draws what a cache is given: few places and MACs, so that they meet.
type dice struct{ *rand.Rand }

func (d dice) config() api.NeighConfig {
	return api.NeighConfig{Max: 1 + d.Intn(6), Line: 1 + d.Intn(3), Every: 1 + d.Intn(4), Tries: 1 + d.Intn(4), Fresh: 1 + d.Intn(6)}
}

func (d dice) place() (int, api.IP) {
	ip := four(byte(d.Intn(3)))
	if d.Intn(3) == 0 {
		ip.V = 6
	}
	return d.Intn(3) * 3, ip
}

// odd is a place that may not be, as often as one that may.
func (d dice) odd() (int, api.IP) {
	port, ip := d.place()
	switch d.Intn(6) {
	case 0:
		port = []int{-1, 8}[d.Intn(2)]
	case 1:
		ip.V = []int{0, 5, -6}[d.Intn(3)]
	case 2:
		ip.A[4+d.Intn(12)] = 1
	}
	return port, ip
}

func (d dice) mac() api.Mac { return []api.Mac{m, m, m, m, m2, m2, {}, {3}}[d.Intn(8)] }

// like is one drawn turn of both, and all that they tell behind it.
func like(t *testing.T, d dice, x *neigh.Cache, o *model, item int) {
	t.Helper()
	port, ip := d.place()
	if d.Intn(8) == 0 {
		port, ip = d.odd()
	}
	var got, want string
	switch d.Intn(5) {
	case 0, 1:
		got = fmt.Sprint(x.Want(port, ip, item))
		want = fmt.Sprint(o.Want(port, ip, item))
	case 2:
		mac, how := d.mac(), d.Intn(5)
		got = fmt.Sprint(x.Learn(port, ip, mac, how))
		want = fmt.Sprint(o.Learn(port, ip, mac, how))
	default:
		got = fmt.Sprint(x.Tick())
		want = fmt.Sprint(o.Tick())
	}
	if got != want {
		t.Errorf("tells %s, want %s", got, want)
	}
	holds(t, x, o.All()...)
	port, ip = d.odd()
	if o.find(port, ip) == nil {
		hasNot(t, x, port, ip)
	}
}

// 15.2 to 15.6: drawn turns, held against the model.
func TestAgainstTheModel(t *testing.T) {
	d := dice{rand.New(rand.NewSource(15))}
	for range 1500 {
		c := d.config()
		x, o := cache(t, c), &model{NeighConfig: c}
		for item := range 120 {
			like(t, d, x, o, item)
			if t.Failed() {
				t.Fatalf("of %+v, turn %d", c, item)
			}
		}
	}
}
