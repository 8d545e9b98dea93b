package box_test

import (
	"slices"
	"testing"

	"weir/api"
)

// 19.7: fragments whose time is over are dropped, each of them; of those with a head the source is told.
func TestLateFragments(t *testing.T) {
	x := met(t, plain())
	p, q := udp(a, b, 9, 3000), udp(a6, b6, 9, 3000)
	head := pieces(p, 1300, 0)[0]
	head6 := pieces(q, 1300, 5)[0]
	x.hears(0, cuts(port0, hostA, q, 1300, 5)[0])
	x.hears(0, cuts(port0, hostA, p, 1300, 0)[:2]...)
	x.ticks(1)
	r := p
	r.Ip4.ID = 8 // without a head
	x.hears(0, cuts(port0, hostA, r, 1300, 0)[1:]...)
	x.keeps(api.Kept{Frags: 5})
	x.ticks(8)
	x.dropped()
	x.ticks(1)
	x.dropped(api.ErrLate, api.ErrLate, api.ErrLate)
	x.tells(0, framed(hostA, port0, complaint(own06, 3, 1, 0, head6)), framed(hostA, port0, complaint(own0, 11, 1, 0, head)))
	x.keeps(api.Kept{Frags: 2})
	x.ticks(1)
	x.dropped(slices.Repeat([]api.Errno{api.ErrLate}, 5)...)
	x.keeps(api.Kept{})
	x.quiet()
}

// 19.7: of what is for the box, too, its source is told; contexts that delivered, or are spoilt, tell nobody.
func TestLateOthers(t *testing.T) {
	x := met(t, plain())
	local := echo("fe80::7", own06, 9, 128, 1, 3000)
	x.hears(0, cuts(port0, hostA, local, 1300, 5)[0])
	x.ticks(10)
	x.dropped(api.ErrLate) // there is no route to that source
	x.quiet()
	x.hears(0, cuts(port0, hostA, echo(a, own1, 9, 8, 1, 3000), 1300, 5)[0])
	x.ticks(10)
	x.tells(0, framed(hostA, port0, complaint(own0, 11, 1, 0, pieces(echo(a, own1, 9, 8, 1, 3000), 1300, 0)[0])))
	x.hears(0, cuts(port0, hostA, udp(a, b, 9, 1000), 600, 5)...)
	x.hears(0, cuts(port0, hostA, udp(a6, b6, 9, 3000), 1300, 5)[0], cuts(port0, hostA, udp(a6, b6, 9, 3000), 1400, 5)[0])
	x.dropped(api.ErrOverlap, api.ErrLate, api.ErrLate)
	x.tells(1, framed(hostB, port1, hop(udp(a, b, 9, 1000))))
	x.keeps(api.Kept{Frags: 1})
	x.ticks(10)
	x.dropped(api.ErrOverlap, api.ErrLate, api.ErrLate, api.ErrLate)
	x.quiet()
}

// 19.7: neighbours are asked again, as often as may be; what waited is then lost, and its source told.
func TestNobodyAnswers(t *testing.T) {
	x := met(t, plain())
	p, q := udp(a, "10.0.1.77", 9, 1), udp(a6, "2001:db8:1::77", 9, 1)
	ask := arp(all, port1, 1, port1, own1, noMac, "10.0.1.77")
	ask6 := solicitation(api.Mac{0x33, 0x33, 0xff, 0, 0, 0x77}, port1, own16, "ff02::1:ff00:77", "2001:db8:1::77", &port1)
	x.hears(0, framed(port0, hostA, q), framed(port0, hostA, p), framed(port0, hostA, p))
	x.tells(1, ask6, ask)
	x.ticks(2)
	x.quiet()
	x.ticks(1)
	x.tells(1, ask, ask6) // by their order now
	x.ticks(3)
	x.tells(1, ask, ask6)
	x.ticks(2)
	x.dropped()
	x.keeps(api.Kept{Waiting: 3})
	x.ticks(1)
	x.dropped(api.ErrNoAnswer, api.ErrNoAnswer, api.ErrNoAnswer)
	told := framed(hostA, port0, complaint(own0, 3, 1, 0, p))
	x.tells(0, told, told, framed(hostA, port0, complaint(own06, 1, 3, 0, q)))
	x.keeps(api.Kept{})
	x.quiet()
}

// 19.7: of each lost piece the source is told about the whole packet as it came, ahead of translation and the hop.
func TestLostPieces(t *testing.T) {
	x := made(t, natted())
	x.meets(0, port0, hostA, a, own0)
	p := udp(a, far, 9, 1600)
	x.hears(0, cuts(port0, hostA, p, 1300, 0)...)
	x.keeps(api.Kept{Waiting: 2, Tx: 1})
	x.ticks(9)
	told := framed(hostA, port0, complaint(own0, 3, 1, 0, p))
	x.tells(0, told, told)
	x.dropped(api.ErrNoAnswer, api.ErrNoAnswer)
}

// 19.7: what the box made itself is lost without a word.
func TestLostOwn(t *testing.T) {
	x := made(t, plain())
	x.hears(0, framed(port0, hostA, udp(a, b, 1, 1)), framed(port0, hostA, echo("10.0.0.3", own0, 9, 8, 1, 1)))
	x.keeps(api.Kept{Waiting: 2, Tx: 2})
	x.ticks(9)
	x.dropped(api.ErrIp4TTL, api.ErrNoAnswer, api.ErrNoAnswer)
	x.counts(2, 0, 1, 2+6)
	x.keeps(api.Kept{Tx: 6})
}

// 19.7: a stale neighbour that is used is asked at its MAC, and forgotten if it does not answer.
func TestProbedGoes(t *testing.T) {
	x := made(t, plain())
	x.hears(1, arp(all, hostB, 1, hostB, b, noMac, own1))
	x.Drain(1)
	x.hears(0, framed(port0, hostA, udp(a, b, 9, 1)))
	probe := arp(hostB, port1, 1, port1, own1, noMac, b)
	x.tells(1, probe, framed(hostB, port1, hop(udp(a, b, 9, 1))))
	x.ticks(3)
	x.tells(1, probe)
	x.ticks(3)
	x.tells(1, probe)
	x.ticks(3)
	x.knows()
	x.quiet()
	x.dropped()
}

// 19.7: the order of a tick: late fragments first, whose complaint wants a neighbour; that one is then a tick old.
func TestOrderOfTheTick(t *testing.T) {
	x := made(t, with(plain(), func(c *api.Config) { c.Neigh.Every, c.Neigh.Tries = 1, 2 }))
	x.hears(0, cuts(port0, hostA, udp(a, b, 9, 3000), 1300, 0)[0])
	x.ticks(10)
	ask := arp(all, port0, 1, port0, own0, noMac, a)
	x.tells(0, ask, ask) // asked by the complaint, and asked again by the same tick
	x.dropped(api.ErrLate)
	x.ticks(1)
	x.dropped(api.ErrLate, api.ErrNoAnswer)
	y := made(t, plain()) // asks are ahead of what the lost ones make
	other := arp(all, port0, 1, port0, own0, noMac, "10.0.0.77")
	y.hears(0, framed(port0, hostA, udp(a, b, 9, 1)))
	y.ticks(3)
	y.hears(0, framed(port0, hostA, udp("10.0.0.3", "10.0.0.77", 9, 1)))
	y.ticks(3)
	y.tells(0, other, other)
	y.ticks(3)
	y.tells(0, other, ask)
	y.dropped(api.ErrNoAnswer)
}

// 19.7: fresh neighbours go stale in their time.
func TestFreshGoesStale(t *testing.T) {
	x := made(t, with(plain(), func(c *api.Config) { c.Neigh.Fresh = 3 }))
	x.meets(1, port1, hostB, b, own1)
	x.ticks(2)
	x.knows(neighbour(1, b, hostB, api.NFresh))
	x.ticks(1)
	x.knows(neighbour(1, b, hostB, api.NStale))
}
