package neigh_test

import (
	"math"
	"testing"

	"weir/api"
)

// 15.3: each thing that may not be, the others being right or wrong.
func TestLearnRefuses(t *testing.T) {
	x, l := all(t)
	for _, w := range wrongPlaces() {
		for how := range 5 {
			refusesLearn(t, x, w.port, w.ip, m2, how, api.ErrArg)
			refusesLearn(t, x, w.port, w.ip, api.Mac{}, how, api.ErrArg)
		}
	}
	macs := []api.Mac{{}, {1}, {3, 2}, {255}, {255, 255, 255, 255, 255, 255}, {0x33, 0x33, 0, 0, 0, 1}, {1, 0, 0x5e, 0, 0, 1}, {129, 1}}
	hows := []int{math.MinInt, -1, 0, 4, 5, 1<<32 + 1, math.MaxInt}
	for d := range byte(6) {
		for _, mac := range macs {
			for how := api.LAnswer; how <= api.LSeen; how++ {
				refusesLearn(t, x, 0, four(d), mac, how, api.ErrArg)
			}
		}
		for _, how := range hows {
			refusesLearn(t, x, 0, four(d), m2, how, api.ErrArg)
			refusesLearn(t, x, 0, four(d), m, how, api.ErrArg)
		}
	}
	holds(t, x, l...)
	learns(t, x, 0, four(1), m, api.LAnswer, 1)
}

// 15.3: MACs at the edges of what may be, with each bit beside the group's.
func TestMacs(t *testing.T) {
	macs := []api.Mac{{254, 255, 255, 255, 255, 255}, {0, 1}, {0, 255}}
	for bit := range 48 {
		var mac api.Mac
		if mac[bit/8] = 1 << (bit % 8); bit > 0 {
			macs = append(macs, mac)
		}
	}
	for _, mac := range macs {
		for how := api.LAnswer; how <= api.LSeen; how++ {
			x := cache(t, little)
			put(t, x, 0, four(1), api.NAsked, 5)
			learns(t, x, 0, four(1), mac, how, 5)
			holds(t, x, api.Neighbour{IP: four(1), Mac: mac, State: []int{0, api.NFresh, api.NStale, api.NStale}[how]})
		}
	}
}

// 15.3: what comes of it by the state of the entry, by how it was learnt, and by the MAC.
func TestLearnByState(t *testing.T) {
	for state := api.NAsked; state <= api.NProbed; state++ {
		for how := api.LAnswer; how <= api.LSeen; how++ {
			for _, mac := range []api.Mac{m, m2} {
				x, l := all(t)
				want := &l[state-1]
				var items []int
				if state == api.NAsked {
					items = []int{1}
				}
				if how == api.LAnswer {
					*want = fresh(0, want.IP, mac, 0)
				} else if want.Mac != mac {
					*want = stale(0, want.IP, mac, 0)
				}
				learns(t, x, 0, want.IP, mac, how, items...)
				holds(t, x, l...)
				learns(t, x, 0, want.IP, mac, how) // none waits any longer
				holds(t, x, l...)
			}
		}
	}
}

// 15.3: where there is no entry an ask of theirs alone makes one, if there is room.
func TestLearnOfNone(t *testing.T) {
	for how := api.LAnswer; how <= api.LSeen; how++ {
		x := cache(t, little)
		learns(t, x, 4, six(1), m, how)
		if how != api.LAsk {
			holds(t, x)
			continue
		}
		holds(t, x, stale(4, six(1), m, 0))
	}
	x, l := all(t)
	learns(t, x, 0, four(5), m2, api.LAnswer)
	learns(t, x, 0, four(5), m2, api.LSeen)
	holds(t, x, l...)
	learns(t, x, 0, four(0), m2, api.LAsk) // the stale one gives way
	holds(t, x, stale(0, four(0), m2, 0), l[0], l[1], l[3])
	learns(t, x, 0, four(5), m2, api.LAsk) // and now this one, new as it is
	holds(t, x, l[0], l[1], l[3], stale(0, four(5), m2, 0))
	wants(t, x, 0, four(5), 9, m2, api.NKnownAsk)
	l = []api.Neighbour{l[0], l[1], l[3], probed(0, four(5), m2, 0, 1)}
	refusesLearn(t, x, 0, four(0), m, api.LAsk, api.ErrNoNeigh)
	learns(t, x, 0, four(0), m, api.LSeen)
	learns(t, x, 0, four(0), m, api.LAnswer)
	holds(t, x, l...)
}

// 15.3: an entry of the same address on another port, or of the other version, is another's.
func TestLearnThereAlone(t *testing.T) {
	x := cache(t, wide)
	a, b := four(1), api.IP{V: 6, A: four(1).A}
	put(t, x, 0, a, api.NAsked, 1)
	put(t, x, 1, a, api.NAsked, 2)
	put(t, x, 1, b, api.NAsked, 3)
	learns(t, x, 1, a, m, api.LAnswer, 2)
	holds(t, x, asked(0, a, 0, 1, 1), fresh(1, a, m, 0), asked(1, b, 0, 1, 1))
	learns(t, x, 0, b, m, api.LAnswer)
	learns(t, x, 1, b, m2, api.LSeen, 3)
	holds(t, x, asked(0, a, 0, 1, 1), fresh(1, a, m, 0), stale(1, b, m2, 0))
}

// 15.3: what was asked and learnt, stale and asked again, waits for its asks from the beginning.
func TestTriesBeginAgain(t *testing.T) {
	x := cache(t, little)
	put(t, x, 0, four(1), api.NAsked, 1)
	quiet(t, x, 1)
	ticks(t, x, asks{{IP: four(1), Try: 2}}, nil)
	quiet(t, x, 1)
	learns(t, x, 0, four(1), m, api.LSeen, 1)
	holds(t, x, stale(0, four(1), m, 0))
	quiet(t, x, 7)
	wants(t, x, 0, four(1), 2, m, api.NKnownAsk)
	quiet(t, x, 1)
	ticks(t, x, asks{{IP: four(1), Mac: m, Try: 2}}, nil)
	learns(t, x, 0, four(1), m, api.LSeen) // the same MAC, only seen: no answer
	holds(t, x, probed(0, four(1), m, 0, 2))
	quiet(t, x, 1)
	learns(t, x, 0, four(1), m, api.LAnswer)
	quiet(t, x, 2)
	holds(t, x, fresh(0, four(1), m, 2))
	learns(t, x, 0, four(1), m, api.LAnswer)
	quiet(t, x, 2)
	holds(t, x, fresh(0, four(1), m, 2))
	quiet(t, x, 1)
	holds(t, x, stale(0, four(1), m, 0))
}
