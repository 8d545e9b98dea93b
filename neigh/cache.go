package neigh

import (
	"slices"

	"weir/api"
)

// begin asks for a neighbour of whom there is no entry; the item waits for it.
func (c *Cache) begin(k key, item int) (api.Mac, int, api.Errno) {
	if e := c.add(k, &entry{state: api.NAsked, tries: 1, line: []int{item}}); e != api.OK {
		return api.Mac{}, api.NRefused, e
	}
	return api.Mac{}, api.NAsk, api.OK
}

// wait lets an item wait behind those that wait for an asked neighbour.
func (c *Cache) wait(e *entry, item int) (api.Mac, int, api.Errno) {
	if len(e.line) == c.config.Line {
		return api.Mac{}, api.NRefused, api.ErrWaiting
	}
	e.line = append(e.line, item)
	return api.Mac{}, api.NWait, api.OK
}

// add puts a new entry in, for which, if all places are taken, a stale one gives way.
func (c *Cache) add(k key, e *entry) api.Errno {
	if len(c.entries) == c.config.Max {
		old, ok := c.oldest()
		if !ok {
			return api.ErrNoNeigh
		}
		delete(c.entries, old)
	}
	c.entries[k] = e
	return api.OK
}

// oldest tells which stale entry has the greatest age; of several the first by their order, so that the map's own
// order is not seen.
func (c *Cache) oldest() (key, bool) {
	var old key
	age := -1
	for k, e := range c.entries {
		if e.state == api.NStale && (e.age > age || e.age == age && order(k, old) < 0) {
			old, age = k, e.age
		}
	}
	return old, age >= 0
}

// older makes all entries one tick older, and tells by their order those whose ask was not answered in time.
func (c *Cache) older() []key {
	var due []key
	for k, e := range c.entries {
		if e.older(c.config) {
			due = append(due, k)
		}
	}
	slices.SortFunc(due, order)
	return due
}
