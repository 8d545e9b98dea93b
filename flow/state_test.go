package flow_test

import (
	"slices"
	"strings"
	"testing"

	"weir/api"
)

// states is the document's table of turns, word by word.
const states = `
| state | out: syn | out: plain | out: fin | in: both | in: plain | in: fin |
| (none) | FOpening | | | | | |
| FOpening 1 | FOpening | | | FOpened | | |
| FOpened 2 | FOpened | FLive | FOutFin | FOpened | FOpened | FInFin |
| FLive 3 | | FLive | FOutFin | | FLive | FInFin |
| FOutFin 4 | | FOutFin | FOutFin | | FOutFin | FClosing |
| FInFin 5 | | FInFin | FClosing | | FInFin | FInFin |
| FClosing 6 | FOpening | FClosing | FClosing | | FClosing | FClosing |
`

const ended = -1

// cells are the table's words, row by row.
func cells() [][]string {
	var rows [][]string
	for line := range strings.Lines(strings.TrimSpace(states)) {
		var row []string
		for _, c := range strings.Split(strings.Trim(strings.TrimSpace(line), "|"), "|") {
			row = append(row, strings.TrimSpace(c))
		}
		rows = append(rows, row)
	}
	return rows
}

// segment names what a segment of TCP is by its flags.
func segment(flags int) string {
	s, k, f := flags&synF != 0, flags&ackF != 0, flags&finF != 0
	if flags&rstF != 0 {
		return "reset"
	}
	if s {
		if f {
			return "bad"
		}
		if k {
			return "both"
		}
		return "syn"
	}
	if f {
		return "fin"
	}
	return "plain"
}

// nextStates has by state, and by a word such as "out: syn", the state behind; 0: it may not go there.
func nextStates() []map[string]int {
	names := []string{"", "FOpening", "FOpened", "FLive", "FOutFin", "FInFin", "FClosing"}
	rows := cells()
	var l []map[string]int
	for state, row := range rows[1:] {
		m := map[string]int{}
		for i, word := range rows[0] {
			if i > 0 {
				m[word] = slices.Index(names, row[i])
			}
		}
		if state > 0 {
			m["out: reset"], m["in: reset"] = ended, ended
		}
		l = append(l, m)
	}
	return l
}

// timeOf is the time of a state of TCP.
func timeOf(c api.FlowConfig, state int) int {
	return []int{0, c.Syn, c.Syn, c.Tcp, c.Fin, c.Fin, c.Fin}[state]
}

// 17.4: each state, each way, each set of flags; of both versions; what is refused leaves the flow as it is.
func TestStates(t *testing.T) {
	next := nextStates()
	if len(next) != 7 || len(next[6]) != 8 || next[6]["in: fin"] != api.FClosing || next[1]["out: plain"] != 0 {
		t.Fatalf("the table is %v", next)
	}
	for _, x := range []api.Tuple{tup(6, a, 5, r, 80), tup(6, six(1), 5, six(2), 80)} {
		y := x
		if x.Src.V == 4 {
			y = from(x, 5)
		}
		for state := range next {
			for flags := range 256 {
				f := bring(t, wide, x, state)
				ticks(t, f, 0)
				before := f.Dump()
				switch to := next[state]["out: "+segment(flags)]; {
				case to == 0:
					refusesOut(t, f, x, flags, api.ErrState)
					holds(t, f, before...)
				case to == ended:
					goesOut(t, f, x, flags, y)
					holds(t, f)
				default:
					goesOut(t, f, x, flags, y)
					holds(t, f, api.Flow{Tuple: x, Port: 5, State: to, Left: timeOf(wide, to)})
				}
				f = bring(t, wide, x, state)
				ticks(t, f, 0)
				switch to := next[state]["in: "+segment(flags)]; {
				case state == 0:
					refusesIn(t, f, back(y), flags, api.ErrNoFlow)
					holds(t, f)
				case to == 0:
					refusesIn(t, f, back(y), flags, api.ErrState)
					holds(t, f, before...)
				case to == ended:
					comesIn(t, f, back(y), flags, back(x))
					holds(t, f)
				default:
					comesIn(t, f, back(y), flags, back(x))
					holds(t, f, api.Flow{Tuple: x, Port: 5, State: to, Left: timeOf(wide, to)})
				}
			}
		}
	}
}

// 17.4: of the flags those four alone are looked at, whatever number they are.
func TestFlagsOfAnyNumber(t *testing.T) {
	x := tup(6, a, 5, r, 80)
	for _, more := range []int{0, 8, 32, 64, 128, 256, 1 << 20, 1 << 40, -64, -1 << 32, -1 << 63} {
		f := table(t, wide)
		goesOut(t, f, x, more|synF, from(x, 5))
		comesIn(t, f, back(from(x, 5)), more|synF|ackF, back(x))
		goesOut(t, f, x, more|ackF, from(x, 5))
		holds(t, f, api.Flow{Tuple: x, Port: 5, State: api.FLive, Left: 11})
		refusesOut(t, f, x, more|synF, api.ErrState)
		comesIn(t, f, back(from(x, 5)), more|finF, back(x))
		holds(t, f, api.Flow{Tuple: x, Port: 5, State: api.FInFin, Left: 4})
		goesOut(t, f, x, more|rstF|synF|finF, from(x, 5))
		holds(t, f)
	}
}

// 17.4: a flow that is not of TCP is always alive; its flags are not looked at.
func TestAlive(t *testing.T) {
	for _, x := range []api.Tuple{tup(17, a, 5, r, 0), tup(17, six(1), 5, six(2), 0), tup(1, a, 5, r, 0), tup(58, six(1), 5, six(2), 0)} {
		alive := api.Flow{Tuple: x, Port: 5, State: api.FAlive, Left: 7}
		if x.Proto != 17 {
			alive.Left = 3
		}
		for flags := range 256 {
			f := table(t, wide)
			y, e := f.Out(x, flags)
			if e != api.OK {
				t.Fatalf("Out(%v, %d): %d", x, flags, e)
			}
			holds(t, f, alive)
			ticks(t, f, 0, 0)
			comesIn(t, f, back(y), flags, back(x))
			holds(t, f, alive)
			ticks(t, f, 0)
			goesOut(t, f, x, 255-flags, y)
			holds(t, f, alive)
		}
	}
}

// 17.4: one that closes and opens anew keeps its port; one that was reset begins as any other.
func TestOpenedAnew(t *testing.T) {
	c := wide
	c.Lo, c.Hi = 1000, 1001
	x, z := tup(6, a, 5, r, 80), tup(6, b, 5, r, 80)
	f := bring(t, c, x, api.FClosing)
	goesOut(t, f, z, synF, from(z, 1001))
	goesOut(t, f, x, synF, from(x, 1000))
	holds(t, f, api.Flow{Tuple: x, Port: 1000, State: api.FOpening, Left: 5}, api.Flow{Tuple: z, Port: 1001, State: api.FOpening, Left: 5})
	goesOut(t, f, x, rstF, from(x, 1000))
	refusesOut(t, f, x, rstF, api.ErrState)
	refusesOut(t, f, x, ackF, api.ErrState)
	refusesIn(t, f, back(from(x, 1000)), rstF, api.ErrNoFlow)
	goesOut(t, f, z, rstF, from(z, 1001))
	goesOut(t, f, z, synF, from(z, 1000))
	goesOut(t, f, x, synF, from(x, 1001))
}
