package link

import (
	"weir/api"
	"weir/view"
)

const (
	arpBytes  = 28
	arpForm   = 0x0001_0800_06_04 // what each message begins with: Ethernet, IPv4, how long an address of each is
	formBytes = 6
	fourBytes = 4
	opAsk     = 1
	opAnswer  = 2
)

// ParseArp reads an ARP packet.
func ParseArp(b []byte) (api.Arp, api.Errno) {
	if len(b) > api.MaxBytes {
		return api.Arp{}, api.ErrLong
	}
	if len(b) < arpBytes {
		return api.Arp{}, api.ErrArpShort
	}
	c := view.At(b)
	if form, _ := c.Uint(formBytes); form != arpForm {
		return api.Arp{}, api.ErrArpForm
	}
	op, _ := c.Uint(2)
	a := api.Arp{Op: int(op), SMac: readMac(c), SIP: readFour(c), TMac: readMac(c), TIP: readFour(c)}
	if e := checkArp(a); e != api.OK {
		return api.Arp{}, e
	}
	return a, api.OK
}

// PutArp writes an ARP packet.
func PutArp(a api.Arp) ([]byte, api.Errno) {
	if e := checkArp(a); e != api.OK {
		return nil, e
	}
	b, e := view.NewBuilder(arpBytes)
	if e != api.OK {
		return nil, e
	}
	b.Put(formBytes, arpForm)
	b.Put(2, uint64(a.Op))
	b.Bytes(a.SMac[:], a.SIP.A[:fourBytes], a.TMac[:], a.TIP.A[:fourBytes])
	return b.Done(), api.OK
}

// checkArp tells whether the values may be a message.
func checkArp(a api.Arp) api.Errno {
	if a.Op != opAsk && a.Op != opAnswer {
		return api.ErrArpOp
	}
	if Group(a.SMac) || a.SMac == (api.Mac{}) {
		return api.ErrArpMac
	}
	if !isFour(a.SIP) || !isFour(a.TIP) {
		return api.ErrFamily
	}
	return api.OK
}

// isFour tells whether the values are an address of version 4.
func isFour(ip api.IP) bool { return ip == fourOf(ip.A[:fourBytes]) }

func fourOf(b []byte) api.IP {
	ip := api.IP{V: 4}
	copy(ip.A[:], b)
	return ip
}

// readFour takes an address of version 4; the caller has seen that it is there.
func readFour(c *view.Cursor) api.IP {
	w, _ := c.Window(fourBytes)
	return fourOf(w)
}
