package rules_test

import (
	"math/rand"
	"slices"
	"strings"
	"testing"

	"weir/api"
	"weir/rules"
)

// holds wants a set to tell these rules, and their lines.
func holds(t *testing.T, s *rules.Set, want ...api.Rule) {
	t.Helper()
	if l := s.Rules(); !sameAll(l, want) {
		t.Errorf("Rules() = %+v\nwant %+v", l, want)
	}
	var texts []string
	for _, r := range want {
		texts = append(texts, line(t, r))
	}
	if l := s.Lines(); !slices.Equal(l, texts) {
		t.Errorf("Lines() = %q\nwant %q", l, texts)
	}
}

func refusesParse(t *testing.T, want api.Errno, number, place int, lines ...string) {
	t.Helper()
	if s, e, n, p := rules.Parse(lines...); s != nil || e != want || n != number || p != place {
		t.Errorf("Parse of %d lines = %v, %d, %d, %d; want %d, %d, %d", len(lines), s, e, n, p, want, number, place)
	}
}

// 16.5, 16.6: lines that are no rules are passed over, however long they are.
func TestPassedOver(t *testing.T) {
	holds(t, set(t))
	holds(t, set(t, []string{}...))
	holds(t, set(t, "", " ", "\t", " \t \t", "#", "# permit any", "\t #\x80\xff\n", long("", 5000), long("#", 5000), long("\t#", 1025), "#"+strings.Repeat("\x80", 2000)))
	any := api.Rule{Act: 1}
	holds(t, set(t, "# all", "", "permit any"), any)
	holds(t, set(t, "permit any", "# all", ""), any)
	holds(t, set(t, "", "deny arp", "#", " reject  tcp\t", " ", "permit any"), api.Rule{Act: 2, Kind: 1}, api.Rule{Act: 3, Proto: 6}, any)
}

// 16.5: the first line that is none is told: its error, its number among all lines, its place.
func TestParseFaults(t *testing.T) {
	refusesParse(t, api.ErrRuleEnd, 1, 6, "permit any", "permit")
	refusesParse(t, api.ErrRuleEnd, 2, 6, "permit any", "# permit", "permit", "x")
	refusesParse(t, api.ErrWord, 0, 0, "\x80")
	refusesParse(t, api.ErrWord, 0, 1, " \x80")
	refusesParse(t, api.ErrWord, 0, 0, "\n")
	refusesParse(t, api.ErrWord, 1, 2, "", " \t\r")
	refusesParse(t, api.ErrWord, 0, 0, "\v")
	refusesParse(t, api.ErrWord, 0, 0, "\u00a0# blank elsewhere")
	refusesParse(t, api.ErrWord, 0, 11, "permit any #")
	refusesParse(t, api.ErrWord, 3, 0, "permit any", "", "#", "allow", "permit")
	refusesParse(t, api.ErrLong, 1, 1024, "permit any", long("permit any", 1025))
	refusesParse(t, api.ErrNumber, 0, 15, "permit any vid 4095", "permit")
	refusesParse(t, api.ErrClause, 4, 20, "", "", "", "", "permit tcp from any from any")
}

// 16.5: 256 rules are a set; at the 257th its line is told, ahead of its own faults but behind those of the lines ahead.
func TestParseTooMany(t *testing.T) {
	full := lines("deny any", 256)
	holds(t, set(t, full...), slices.Repeat([]api.Rule{{Act: 2}}, 256)...)
	holds(t, set(t, append(full, "", "#", "   ")...), slices.Repeat([]api.Rule{{Act: 2}}, 256)...)
	for _, last := range []string{"deny any", "wrong", "\x80", long("x", 2000), ","} {
		refusesParse(t, api.ErrRules, 256, 0, append(slices.Clone(full), last, "also wrong")...)
		refusesParse(t, api.ErrRules, 259, 0, append(slices.Clone(full), "", "#", " ", last)...)
	}
	refusesParse(t, api.ErrRuleEnd, 255, 4, append(slices.Clone(full[:255]), "deny", "deny any")...)
	refusesParse(t, api.ErrRules, 257, 0, append([]string{"#"}, lines("deny any", 1000)...)...)
}

// 16.5: New of rules, and of what is none.
func TestNew(t *testing.T) {
	holds(t, made(t))
	holds(t, made(t, []api.Rule{}...))
	l := []api.Rule{{Act: 1, Class: 3}, {Act: 2, Kind: 1, Vid: 7}, {Act: 3, Proto: 6, Set: 2}}
	holds(t, made(t, l...), l...)
	full := slices.Repeat([]api.Rule{{Act: 2}}, 256)
	holds(t, made(t, full...), full...)
	rows := []struct {
		l      []api.Rule
		e      api.Errno
		number int
	}{
		{append(full, api.Rule{Act: 2}), api.ErrRules, 256},
		{make([]api.Rule, 257), api.ErrRules, 256},
		{make([]api.Rule, 1000), api.ErrRules, 256},
		{make([]api.Rule, 256), api.ErrRule, 0},
		{append(slices.Clone(full[:255]), api.Rule{Act: 2, Class: 1}), api.ErrClause, 255},
		{[]api.Rule{{Act: 1}, {Act: 1, From: api.Side{Not: true}}, {}}, api.ErrNet, 1},
		{[]api.Rule{{Act: 1}, {Act: 1}, {Act: 1, To: api.Side{Ports: []api.Range{{Lo: -1}}}}}, api.ErrRulePorts, 2},
	}
	for _, x := range rows {
		if s, e, n := rules.New(x.l...); s != nil || e != x.e || n != x.number {
			t.Errorf("New of %d = %v, %d, %d; want %d, %d", len(x.l), s, e, n, x.e, x.number)
		}
	}
}

// 16.6: a set tells its rules in their order, again and again, and its lines are read as the same set.
func TestRulesAndLines(t *testing.T) {
	d := dice{rand.New(rand.NewSource(166))}
	for range 200 {
		l := d.some(d.Intn(20))
		s := made(t, l...)
		holds(t, s, l...)
		holds(t, s, l...)
		holds(t, set(t, s.Lines()...), l...)
		holds(t, made(t, s.Rules()...), l...)
	}
}
