package box

import (
	"maps"
	"slices"

	"weir/api"
)

// tally counts what came in, went out, was used up, made and dropped.
type tally struct {
	in, out, used, made int
	drops               map[api.Errno]int
}

// drop counts n packets that were dropped for a reason.
func (t *tally) drop(reason api.Errno, n int) {
	if n > 0 { // a reason for which none was dropped is not told
		t.drops[reason] += n
	}
}

// refuse counts a packet as dropped for an error, if it is one.
func (t *tally) refuse(e api.Errno) {
	if e != api.OK {
		t.drop(e, 1)
	}
}

// told is the counters as they are told.
func (t *tally) told() api.Counts {
	c := api.Counts{In: t.in, Out: t.out, Used: t.used, Made: t.made}
	for _, reason := range slices.Sorted(maps.Keys(t.drops)) {
		c.Drops = append(c.Drops, api.Drop{Reason: reason, N: t.drops[reason]})
	}
	return c
}
