package rules_test

import (
	"math"
	"math/rand"
	"reflect"
	"slices"
	"testing"

	"weir/addr"
	"weir/api"
	"weir/rules"
)

// 16.8: the verdict of a set is that of its first part, if a rule of that matches, else that of the rest, its numbers moved on.
func TestFirstPartFirst(t *testing.T) {
	d := dice{rand.New(rand.NewSource(168))}
	firsts, rests := 0, 0
	for range 2000 {
		l := d.some(2 + d.Intn(8))
		n := d.Intn(len(l) + 1)
		whole, first, rest := made(t, l...), made(t, l[:n]...), made(t, l[n:]...)
		for range 10 {
			port, p := d.Intn(8), d.packet()
			want := first.Judge(port, p)
			if want.Rule >= 0 {
				firsts++
			} else if want = rest.Judge(port, p); want.Rule >= 0 {
				rests++
				want.Rule += n
			}
			judges(t, whole, port, p, want)
		}
	}
	if firsts < 500 || rests < 500 {
		t.Errorf("%d by the first part, %d by the rest", firsts, rests)
	}
}

// 16.8: a rule behind one that matches does not count, and one that does not match may be left out.
func TestRulesThatDoNotCount(t *testing.T) {
	d := dice{rand.New(rand.NewSource(1688))}
	for range 2000 {
		l := d.some(1 + d.Intn(10))
		port, p := d.Intn(8), d.packet()
		v := made(t, l...).Judge(port, p)
		if v.Rule < 0 {
			judges(t, made(t), port, p, v)
			continue
		}
		judges(t, made(t, append(slices.Clone(l[:v.Rule+1]), d.some(5)...)...), port, p, v)
		alone := v
		alone.Rule = 0
		judges(t, made(t, l[v.Rule]), port, p, alone)
		var some []api.Rule
		for _, r := range l[:v.Rule] {
			if d.Intn(2) == 0 {
				some = append(some, r)
			}
		}
		alone.Rule = len(some)
		judges(t, made(t, append(some, l[v.Rule])...), port, p, alone)
	}
	s := set(t, "deny any", "permit any", "reject any")
	judges(t, s, 0, tcp(), api.Verdict{Act: api.ADeny})
}

// 16.9: what no rule matches is denied, whatever the rules are that do not.
func TestDenyIsLeft(t *testing.T) {
	d := dice{rand.New(rand.NewSource(169))}
	n := 0
	for range 5000 {
		var l []api.Rule
		port, p := d.Intn(8), d.packet()
		for _, r := range d.some(8) {
			if !modelMatches(r, port, p) {
				l = append(l, r)
			}
		}
		n += len(l)
		judges(t, made(t, l...), port, p, denied)
	}
	if n < 10000 {
		t.Errorf("%d rules", n)
	}
}

// roomy is a rule with spare room behind its lists.
func roomy(r api.Rule) api.Rule {
	for _, s := range []*api.Side{&r.From, &r.To} {
		s.Nets = append(make([]api.Prefix, 0, 24), s.Nets...)
		s.Ports = append(make([]api.Range, 0, 24), s.Ports...)
	}
	return r
}

// rooms is all that the lists of a rule have, spare room too, in memory of its own.
func rooms(r api.Rule) [4]any {
	var l [4]any
	for i, s := range []api.Side{r.From, r.To} {
		l[2*i] = append([]api.Prefix{}, s.Nets[:cap(s.Nets)]...)
		l[2*i+1] = append([]api.Range{}, s.Ports[:cap(s.Ports)]...)
	}
	return l
}

// scrawl writes into all that the lists of a rule have, spare room too.
func scrawl(r api.Rule) {
	for _, s := range []api.Side{r.From, r.To} {
		for i := range s.Nets[:cap(s.Nets)] {
			s.Nets[:cap(s.Nets)][i] = api.Prefix{IP: api.IP{V: 6, A: [16]byte{9, 9}}, Len: 77}
		}
		for i := range s.Ports[:cap(s.Ports)] {
			s.Ports[:cap(s.Ports)][i] = api.Range{Lo: 777, Hi: 7}
		}
	}
}

// 16.10: what is handed in is not changed, nor the spare room behind it.
func TestHandedInStays(t *testing.T) {
	d := dice{rand.New(rand.NewSource(1610))}
	for range 500 {
		r := roomy(d.rule())
		scrawlSpare(r)
		before, values := rooms(r), r
		l := []api.Rule{r, r, {Act: 9}}
		rules.Check(r)
		rules.PrintRule(r)
		s, _, _ := rules.New(l[:2]...)
		p := d.packet()
		tags := slices.Clone(p.Tags)
		s.Judge(d.Intn(8), p)
		s.Lines()
		scrawl(s.Rules()[0])
		if !reflect.DeepEqual(rooms(r), before) || !reflect.DeepEqual(r, values) || l[2].Act != 9 || !slices.Equal(tags, p.Tags) {
			t.Fatalf("%+v was changed", values)
		}
	}
	texts := []string{"permit any", "", "deny tcp", "wrong"}
	rules.Parse(texts[:3]...)
	rules.Parse(texts...)
	if !slices.Equal(texts, []string{"permit any", "", "deny tcp", "wrong"}) {
		t.Errorf("the lines were changed: %q", texts)
	}
}

// scrawlSpare writes into the spare room behind the lists of a rule.
func scrawlSpare(r api.Rule) {
	for _, s := range []api.Side{r.From, r.To} {
		for i := len(s.Nets); i < cap(s.Nets); i++ {
			s.Nets[:cap(s.Nets)][i].Len = 1000 + i
		}
		for i := len(s.Ports); i < cap(s.Ports); i++ {
			s.Ports[:cap(s.Ports)][i].Lo = 1000 + i
		}
	}
}

// 16.10: who writes into what was handed in, or into what was answered, changes no set: not what it tells, not how it judges.
func TestSetsKeepTheirOwn(t *testing.T) {
	d := dice{rand.New(rand.NewSource(16100))}
	for range 300 {
		l := d.some(6)
		given := make([]api.Rule, len(l))
		for i := range l {
			given[i] = roomy(l[i])
		}
		s := made(t, given...)
		for i := range given {
			scrawl(given[i])
			given[i] = api.Rule{Act: 3}
		}
		for range 2 {
			for range 20 {
				port, p := d.Intn(8), d.packet()
				judges(t, s, port, p, modelJudge(l, port, p))
			}
			holds(t, s, l...)
			told := s.Rules()
			texts := s.Lines()
			for i := range told {
				scrawl(told[i])
				told[i], texts[i] = api.Rule{}, ""
			}
		}
		holds(t, s, l...)
	}
}

// 16.10: no two answers, and no two lists of one answer, share memory.
func TestAnswersAreNew(t *testing.T) {
	text := "permit tcp from 10.0.0.1,10.0.0.2,10.0.0.3 port 1,2,3 to 10.0.0.1,10.0.0.2,10.0.0.3 port 1,2,3"
	want, _, _ := rules.ParseRule(text)
	first, _, _ := rules.ParseRule(text)
	scrawl(api.Rule{From: first.From})
	if !reflect.DeepEqual(first.To, want.To) {
		t.Errorf("From and To share memory: %+v", first.To)
	}
	scrawl(first)
	reads(t, text, want)
	s := set(t, text, text)
	one, two := s.Rules(), s.Rules()
	scrawl(api.Rule{From: one[0].From})
	if !reflect.DeepEqual(plain(api.Rule{To: one[0].To}), plain(api.Rule{To: want.To})) {
		t.Errorf("From and To of a set's rule share memory: %+v", one[0])
	}
	scrawl(one[0])
	if !same(one[1], want) || !same(two[0], want) || !same(two[1], want) {
		t.Errorf("rules share memory: %+v, %+v", one, two)
	}
	one[:cap(one)][0] = api.Rule{Act: 3}
	holds(t, s, want, want)
}

// 16.10: an answer's spare room holds nothing of what was handed in or is kept.
func TestSpareRoomIsEmpty(t *testing.T) {
	d := dice{rand.New(rand.NewSource(16101))}
	for range 300 {
		r := roomy(d.rule())
		scrawlSpare(r)
		read, _, _ := rules.ParseRule(line(t, r))
		l := append(made(t, r, r).Rules(), read)
		l = append(l, set(t, line(t, r)).Rules()...)
		for _, x := range l {
			for _, s := range []api.Side{x.From, x.To} {
				for _, n := range s.Nets[len(s.Nets):cap(s.Nets)] {
					if n != (api.Prefix{}) {
						t.Fatalf("the spare room has %+v", n)
					}
				}
				for _, n := range s.Ports[len(s.Ports):cap(s.Ports)] {
					if n != (api.Range{}) {
						t.Fatalf("the spare room has %+v", n)
					}
				}
			}
		}
	}
}

// odd is a number of any kind.
func (d dice) odd() int {
	return pick(d, 0, 1, 2, 3, 4, 5, 6, 7, 8, 9, 17, 58, 255, 256, 4094, 4095, 65535, 65536, -1, math.MaxInt, math.MinInt, d.Int(), -d.Int())
}

// anything is a rule of any values.
func (d dice) anything() api.Rule {
	side := func() api.Side {
		s := api.Side{Not: d.Intn(2) == 0}
		for range pick(d, 0, 0, 1, 2, 16, 17) {
			p := d.prefix(0)
			if d.Intn(4) == 0 {
				p = api.Prefix{IP: api.IP{V: d.odd(), A: [16]byte{byte(d.Int()), 15: byte(d.Int())}}, Len: d.odd()}
			}
			s.Nets = append(s.Nets, p)
		}
		for range pick(d, 0, 0, 1, 2, 16, 17) {
			x := d.ports()
			if d.Intn(4) == 0 {
				x = api.Range{Lo: d.odd(), Hi: d.odd()}
			}
			s.Ports = append(s.Ports, x)
		}
		return s
	}
	r := d.rule()
	if d.Intn(2) == 0 {
		r.From, r.To = side(), side()
	}
	for range d.Intn(3) {
		*pick(d, &r.Act, &r.Class, &r.Kind, &r.Proto, &r.In, &r.Vid, &r.Set, &r.Clear, &r.Type) = d.odd()
	}
	return r
}

// modelCheck is a second reading of what may be a rule.
func modelCheck(r api.Rule) api.Errno {
	out := func(n, low, high int) bool { return n < low || high < n }
	switch {
	case out(r.Act, 1, 3), out(r.Class, 0, 7), out(r.Kind, 0, 3), out(r.Proto, 0, 255), out(r.In, 0, 8), out(r.Vid, 0, 4094),
		out(r.Set, 0, 255), out(r.Clear, 0, 255), out(r.Type, 0, 256), r.Set+r.Clear != r.Set|r.Clear:
		return api.ErrRule
	case r.Act != 1 && r.Class != 0, r.Kind == 1 && r.Proto != 0, r.Proto != 6 && r.Set+r.Clear != 0, r.Proto != 1 && r.Proto != 58 && r.Type != 0:
		return api.ErrClause
	}
	for _, s := range []api.Side{r.From, r.To} {
		if len(s.Nets) > 16 || len(s.Nets) == 0 && s.Not {
			return api.ErrNet
		}
		for _, n := range s.Nets {
			again, e := addr.Mask(n.IP, n.Len)
			if e != api.OK || again != n.IP || r.Kind != 0 && n.IP.V != []int{0, 4, 4, 6}[r.Kind] {
				return api.ErrNet
			}
		}
		if len(s.Ports) > 16 || slices.ContainsFunc(s.Ports, func(x api.Range) bool { return x.Lo < 0 || x.Lo > x.Hi || x.Hi > 65535 }) {
			return api.ErrRulePorts
		}
		if len(s.Ports) > 0 && r.Proto != 6 && r.Proto != 17 {
			return api.ErrClause
		}
	}
	return api.OK
}

// 16.1, 16.10: rules of any values: nothing panics, and Check answers what a second reading says.
func TestAnyRule(t *testing.T) {
	d := dice{rand.New(rand.NewSource(161))}
	count := map[api.Errno]int{}
	for range 40000 {
		r := d.anything()
		want := modelCheck(r)
		count[want]++
		checks(t, r, want)
		if want == api.OK {
			made(t, r).Judge(d.odd(), d.packet())
		}
	}
	for _, e := range []api.Errno{api.OK, api.ErrRule, api.ErrClause, api.ErrNet, api.ErrRulePorts} {
		if count[e] < 300 {
			t.Errorf("%d was drawn %d times", e, count[e])
		}
	}
}

// 16.10: lines of any bytes are read or refused, alone and among others, at a place of the line.
func TestAnyBytes(t *testing.T) {
	d := dice{rand.New(rand.NewSource(16102))}
	for range 20000 {
		b := make([]byte, d.Intn(40))
		for i := range b {
			b[i] = pick(d, ' ', ',', '#', byte('!'+d.Intn(94)), byte(d.Intn(256)))
		}
		if d.Intn(50) == 0 {
			b = append(b, make([]byte, 1024)...)
		}
		text := string(b)
		e := agrees(t, text)
		if _, _, place := rules.ParseRule(text); e != api.OK && place > len(text) {
			t.Fatalf("ParseRule(%q): place %d", text, place)
		}
		s, e, number, _ := rules.Parse("permit any", text, "deny any")
		if (s == nil) != (e != api.OK) || e != api.OK && number != 1 {
			t.Fatalf("Parse(.., %q, ..) = %v, %d, %d", text, s, e, number)
		}
	}
}

// 16.10: nothing is kept from call to call but in sets: the same calls in whatever turn answer the same.
func TestNothingIsKept(t *testing.T) {
	d := dice{rand.New(rand.NewSource(16103))}
	var l []api.Rule
	var sets []*rules.Set
	for range 50 {
		r := d.rule()
		l = append(l, r)
		sets = append(sets, made(t, r))
	}
	for range 2000 {
		i, port, p := d.Intn(len(l)), d.Intn(8), d.packet()
		rules.ParseRule(pick(d, "permit tcp flags syn vid", "deny any", "\x80"))
		judges(t, sets[i], port, p, modelJudge(l[i:i+1], port, p))
		reads(t, line(t, l[i]), l[i])
		holds(t, sets[i], l[i])
	}
}
