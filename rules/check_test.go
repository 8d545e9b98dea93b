package rules_test

import (
	"math"
	"slices"
	"testing"

	"weir/api"
)

// 16.1: each number of a rule at both its ends and beyond them, where nothing else is in its way.
func TestCheckBounds(t *testing.T) {
	base := map[string]api.Rule{
		"":     {Act: api.APermit},
		"tcp":  {Act: api.APermit, Proto: 6},
		"icmp": {Act: api.APermit, Proto: 1},
	}
	rows := []struct {
		name      string
		base      string
		low, high int
		turn      func(*api.Rule, int)
	}{
		{"Act", "", 1, 3, func(r *api.Rule, n int) { r.Act = n }},
		{"Class", "", 0, 7, func(r *api.Rule, n int) { r.Class = n }},
		{"Kind", "", 0, 3, func(r *api.Rule, n int) { r.Kind = n }},
		{"Proto", "", 0, 255, func(r *api.Rule, n int) { r.Proto = n }},
		{"In", "", 0, 8, func(r *api.Rule, n int) { r.In = n }},
		{"Vid", "", 0, 4094, func(r *api.Rule, n int) { r.Vid = n }},
		{"Set", "tcp", 0, 255, func(r *api.Rule, n int) { r.Set = n }},
		{"Clear", "tcp", 0, 255, func(r *api.Rule, n int) { r.Clear = n }},
		{"Type", "icmp", 0, 256, func(r *api.Rule, n int) { r.Type = n }},
	}
	for _, x := range rows {
		for n := x.low; n <= x.high; n++ {
			r := base[x.base]
			x.turn(&r, n)
			checks(t, r, api.OK)
		}
		for _, n := range []int{x.low - 1, x.high + 1, math.MinInt, math.MaxInt, x.low + 1<<32, math.MinInt + x.low} {
			r := base[x.base]
			x.turn(&r, n)
			checks(t, r, api.ErrRule)
		}
	}
}

// 16.1: no flag must both be set and not be set.
func TestCheckSharedFlags(t *testing.T) {
	for set := range 256 {
		for clear := range 256 {
			want := api.OK
			if set&clear != 0 {
				want = api.ErrRule
			}
			checks(t, api.Rule{Act: api.ADeny, Proto: 6, Set: set, Clear: clear}, want)
		}
	}
	checks(t, api.Rule{Act: api.ADeny, Set: 3, Clear: 1}, api.ErrRule)
}

// 16.1: what stands only beside some acts, kinds and protocols.
func TestCheckClauses(t *testing.T) {
	for act := api.APermit; act <= api.AReject; act++ {
		checks(t, api.Rule{Act: act}, api.OK)
		checks(t, api.Rule{Act: act, Class: 1}, only(act == api.APermit))
		checks(t, api.Rule{Act: act, Class: 7}, only(act == api.APermit))
	}
	for kind := 0; kind <= api.PIp6; kind++ {
		for proto := range 256 {
			r := api.Rule{Act: api.APermit, Kind: kind, Proto: proto}
			checks(t, r, only(proto == 0 || kind != api.PArp))
			if kind == api.PArp && proto != 0 {
				continue
			}
			set, clear, of, from, to := r, r, r, r, r
			set.Set, clear.Clear, of.Type = 128, 1, 1
			from.From.Ports, to.To.Ports = make([]api.Range, 1), make([]api.Range, 1)
			checks(t, set, only(proto == 6))
			checks(t, clear, only(proto == 6))
			checks(t, of, only(proto == 1 || proto == 58))
			checks(t, from, only(proto == 6 || proto == 17))
			checks(t, to, only(proto == 6 || proto == 17))
		}
	}
}

// only is OK, or else ErrClause.
func only(ok bool) api.Errno {
	if ok {
		return api.OK
	}
	return api.ErrClause
}

// onSides checks a rule with a side as its From and as its To.
func onSides(t *testing.T, r api.Rule, s api.Side, want api.Errno) {
	t.Helper()
	from, to := r, r
	from.From, to.To = s, s
	checks(t, from, want)
	checks(t, to, want)
}

// 16.1: which nets may stand, and how many.
func TestCheckNets(t *testing.T) {
	four, six := net(t, "10.0.0.0/8"), net(t, "2001:db8::/32")
	for kind, want := range map[int][2]api.Errno{
		0:        {api.OK, api.OK},
		api.PArp: {api.OK, api.ErrNet},
		api.PIp4: {api.OK, api.ErrNet},
		api.PIp6: {api.ErrNet, api.OK},
	} {
		r := api.Rule{Act: api.AReject, Kind: kind}
		onSides(t, r, api.Side{Nets: []api.Prefix{four}}, want[0])
		onSides(t, r, api.Side{Nets: []api.Prefix{six}}, want[1])
		onSides(t, r, api.Side{Not: true, Nets: []api.Prefix{six, six}}, want[1])
		onSides(t, r, api.Side{Nets: []api.Prefix{four, six}}, max(want[0], want[1]))
		onSides(t, r, api.Side{Nets: []api.Prefix{six, four}}, max(want[0], want[1]))
		onSides(t, r, api.Side{Not: true}, api.ErrNet)
		onSides(t, r, api.Side{Not: true, Nets: []api.Prefix{}}, api.ErrNet)
	}
	r := api.Rule{Act: api.APermit}
	onSides(t, r, api.Side{Nets: slices.Repeat([]api.Prefix{four}, 16)}, api.OK)
	onSides(t, r, api.Side{Nets: slices.Repeat([]api.Prefix{four}, 17)}, api.ErrNet)
	for _, p := range []api.Prefix{
		{}, {IP: api.IP{V: 5}}, {IP: api.IP{V: 4, A: [16]byte{4: 1}}, Len: 32},
		{IP: four.IP, Len: -1}, {IP: four.IP, Len: 33}, {IP: four.IP, Len: 4},
		{IP: six.IP, Len: -1}, {IP: six.IP, Len: 129}, {IP: six.IP, Len: 28},
		{IP: four.IP, Len: math.MaxInt}, {IP: six.IP, Len: math.MinInt},
	} {
		onSides(t, r, api.Side{Nets: []api.Prefix{p}}, api.ErrNet)
		onSides(t, r, api.Side{Nets: []api.Prefix{four, six, p}}, api.ErrNet)
	}
}

// 16.1: which ranges may be, and how many.
func TestCheckRanges(t *testing.T) {
	r := api.Rule{Act: api.APermit, Proto: 17}
	for _, x := range []api.Range{{}, {Lo: 65535, Hi: 65535}, {Lo: 0, Hi: 65535}, {Lo: 7, Hi: 8}} {
		onSides(t, r, api.Side{Ports: []api.Range{x}}, api.OK)
		onSides(t, r, api.Side{Ports: slices.Repeat([]api.Range{x}, 16)}, api.OK)
		onSides(t, r, api.Side{Ports: slices.Repeat([]api.Range{x}, 17)}, api.ErrRulePorts)
	}
	for _, x := range []api.Range{{Lo: -1}, {Lo: -1, Hi: -1}, {Lo: 8, Hi: 7}, {Lo: 0, Hi: 65536}, {Lo: 65536, Hi: 65536}, {Lo: 1}, {Lo: math.MinInt, Hi: 1}, {Hi: math.MaxInt}} {
		onSides(t, r, api.Side{Ports: []api.Range{x}}, api.ErrRulePorts)
		onSides(t, r, api.Side{Ports: []api.Range{{}, x}}, api.ErrRulePorts)
	}
}

// 16.1: of several faults the first counts: a rule with all of them, of which one after the other is mended.
func TestCheckOrder(t *testing.T) {
	wrong := api.Side{Not: true, Ports: []api.Range{{Lo: 2, Hi: 1}}}
	r := api.Rule{Act: api.ADeny, Class: 8, From: wrong, To: wrong}
	checks(t, r, api.ErrRule)
	r.Class = 7
	checks(t, r, api.ErrClause)
	r.Class = 0
	checks(t, r, api.ErrNet)
	r.From.Not = false
	checks(t, r, api.ErrRulePorts)
	r.From.Ports = []api.Range{{Lo: 1, Hi: 2}}
	checks(t, r, api.ErrClause)
	r.From.Ports = nil
	checks(t, r, api.ErrNet)
	r.To.Not = false
	checks(t, r, api.ErrRulePorts)
	r.To.Ports = []api.Range{{Lo: 1, Hi: 2}}
	checks(t, r, api.ErrClause)
	r.Proto = 6
	checks(t, r, api.OK)
}

// 16.1: a number out of its bounds comes ahead of one that may not stand there, whichever fields they are.
func TestCheckBoundsAheadOfClauses(t *testing.T) {
	checks(t, api.Rule{Act: api.ADeny, Class: 1, Type: 257}, api.ErrRule)
	checks(t, api.Rule{Act: api.ADeny, Class: 8}, api.ErrRule)
	checks(t, api.Rule{Act: api.ADeny, Kind: api.PArp, Proto: 256}, api.ErrRule)
	checks(t, api.Rule{Act: api.ADeny, Type: 5, Set: 256}, api.ErrRule)
	checks(t, api.Rule{Act: api.ADeny, Type: 1, From: api.Side{Not: true}}, api.ErrClause)
}
