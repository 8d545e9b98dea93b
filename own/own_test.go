package own_test

import (
	"fmt"
	"testing"

	"weir/api"
	"weir/own"
)

// fresh4 is a datagram with every list; so is fresh6.
func fresh4() api.Ip4 {
	return api.Ip4{ID: 7, MF: true, Opts: []api.Opt{{Kind: 7, Data: []byte{4}}, {Kind: 131, Data: []byte{4, 0}}}, Data: []byte{1, 2}}
}

func fresh6() api.Ip6 {
	return api.Ip6{
		Hop: 7, Frag: api.Frag{Has: true, ID: 9}, Data: []byte{1, 2},
		Exts: []api.Ext{{Kind: 0, Opts: []api.Opt{{Kind: 5, Data: []byte{1}}, {Data: []byte{0, 0}}}}, {Kind: 43, Data: []byte{1, 2, 3, 4, 5, 6}}},
	}
}

func text(v any) string { return fmt.Sprintf("%+v", v) }

func TestFour(t *testing.T) {
	h := fresh4()
	y := own.Four(h)
	h.Data[0], h.Opts[0].Kind, h.Opts[1].Data[1] = 9, 9, 9
	if text(y) != text(fresh4()) {
		t.Errorf("Four(h) = %+v", y)
	}
	if text(own.Four(api.Ip4{})) != text(api.Ip4{}) {
		t.Error("Four of a zero value is none")
	}
}

func TestSix(t *testing.T) {
	h := fresh6()
	y := own.Six(h)
	h.Data[0], h.Exts[0].Opts[0].Kind, h.Exts[0].Opts[1].Data[1], h.Exts[1].Data[5] = 9, 9, 9, 9
	h.Exts[1] = api.Ext{Kind: 60}
	if text(y) != text(fresh6()) {
		t.Errorf("Six(h) = %+v", y)
	}
	if text(own.Six(api.Ip6{})) != text(api.Ip6{}) {
		t.Error("Six of a zero value is none")
	}
}

// freshPacket has every list; no packet that may be has all of them.
func freshPacket() api.Packet {
	return api.Packet{
		Src: api.Mac{2}, Tags: []api.Tag{{TPID: 0x88a8, VID: 1}, {TPID: 0x8100, VID: 2}}, Kind: 7, Arp: api.Arp{Op: 1}, Ip4: fresh4(), Ip6: fresh6(), L4: 7,
		Icmp: api.Icmp{V: 4, Data: []byte{1, 2}}, Udp: api.Udp{Sport: 1, Data: []byte{3, 4}},
		Tcp: api.Tcp{Sport: 2, Opts: []api.Opt{{Kind: 2, Data: []byte{5, 6}}, {Kind: 77}}, Data: []byte{7, 8}},
	}
}

func TestPacket(t *testing.T) {
	p := freshPacket()
	y := own.Packet(p)
	p.Tags[1].VID, p.Ip4.Data[0], p.Ip6.Data[1], p.Ip4.Opts[0].Data[0], p.Ip6.Exts[1].Data[0] = 9, 9, 9, 9, 9
	p.Icmp.Data[1], p.Udp.Data[0], p.Tcp.Data[1], p.Tcp.Opts[1].Kind, p.Tcp.Opts[0].Data[1] = 9, 9, 9, 9, 9
	if text(y) != text(freshPacket()) {
		t.Errorf("Packet(p) = %+v", y)
	}
	if text(own.Packet(api.Packet{})) != text(api.Packet{}) {
		t.Error("Packet of a zero value is none")
	}
}
