package packet

import (
	"bytes"
	"slices"

	"weir/api"
)

// Same tells whether two packets hold the same.
func Same(a, b api.Packet) bool {
	return a.Dst == b.Dst && a.Src == b.Src && slices.Equal(a.Tags, b.Tags) &&
		a.Kind == b.Kind && a.Arp == b.Arp && sameIp4(a.Ip4, b.Ip4) && sameIp6(a.Ip6, b.Ip6) &&
		a.L4 == b.L4 && sameIcmp(a.Icmp, b.Icmp) && sameUdp(a.Udp, b.Udp) && sameTcp(a.Tcp, b.Tcp)
}

func sameIp4(a, b api.Ip4) bool {
	return a.Tos == b.Tos && a.ID == b.ID && a.DF == b.DF && a.MF == b.MF && a.Off == b.Off &&
		a.TTL == b.TTL && a.Proto == b.Proto && a.Src == b.Src && a.Dst == b.Dst &&
		sameOpts(a.Opts, b.Opts) && bytes.Equal(a.Data, b.Data)
}

func sameIp6(a, b api.Ip6) bool {
	return a.Class == b.Class && a.Flow == b.Flow && a.Hop == b.Hop && a.Src == b.Src && a.Dst == b.Dst &&
		slices.EqualFunc(a.Exts, b.Exts, sameExt) && a.Frag == b.Frag && a.Next == b.Next && bytes.Equal(a.Data, b.Data)
}

func sameIcmp(a, b api.Icmp) bool {
	return a.V == b.V && a.Type == b.Type && a.Code == b.Code && a.Rest == b.Rest && bytes.Equal(a.Data, b.Data)
}

func sameUdp(a, b api.Udp) bool {
	return a.Sport == b.Sport && a.Dport == b.Dport && a.NoSum == b.NoSum && bytes.Equal(a.Data, b.Data)
}

func sameTcp(a, b api.Tcp) bool {
	return a.Sport == b.Sport && a.Dport == b.Dport && a.Seq == b.Seq && a.Ack == b.Ack &&
		a.Flags == b.Flags && a.Win == b.Win && a.Urg == b.Urg &&
		sameOpts(a.Opts, b.Opts) && bytes.Equal(a.Data, b.Data)
}

func sameExt(a, b api.Ext) bool {
	return a.Kind == b.Kind && sameOpts(a.Opts, b.Opts) && bytes.Equal(a.Data, b.Data)
}

func sameOpts(a, b []api.Opt) bool { return slices.EqualFunc(a, b, sameOpt) }

func sameOpt(a, b api.Opt) bool { return a.Kind == b.Kind && bytes.Equal(a.Data, b.Data) }
