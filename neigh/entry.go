package neigh

import "weir/api"

// entry is what is kept of one neighbour. Only of an asked one the MAC is zero, and only there items wait.
type entry struct {
	mac        api.Mac
	state      int
	age, tries int
	line       []int // the items that wait, as they came
}

// turn puts an entry into a state that begins now.
func (e *entry) turn(state, tries int) { e.state, e.age, e.tries = state, 0, tries }

// know gives an entry its MAC, and tells the items that waited for it: their list is the caller's from now on.
func (e *entry) know(mac api.Mac, state int) []int {
	line := e.line
	e.mac, e.line = mac, nil
	e.turn(state, 0)
	return line
}

// older makes an entry one tick older, and tells whether its ask has gone without an answer for so long as one waits.
func (e *entry) older(c api.NeighConfig) bool {
	if e.state != api.NStale || e.age < api.MaxAge {
		e.age++
	}
	switch e.state {
	case api.NAsked, api.NProbed:
		return e.age == c.Every
	case api.NFresh:
		if e.age == c.Fresh {
			e.turn(api.NStale, 0)
		}
	}
	return false
}

// told is an entry as it is told.
func (e *entry) told(k key) api.Neighbour {
	return api.Neighbour{Port: k.port, IP: k.ip, Mac: e.mac, State: e.state, Age: e.age, Tries: e.tries, Waiting: len(e.line)}
}
