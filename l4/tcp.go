package l4

import (
	"weir/api"
	"weir/sum"
	"weir/view"
)

// The places of a TCP header's fields in the table of their widths, and in what is read and written by it.
const (
	tcpSport = iota
	tcpDport
	tcpSeq
	tcpAck
	tcpLength // of the header, in units
	tcpReserved
	tcpFlags
	tcpWin
	tcpSum
	tcpUrg
	tcpFields // how many there are
)

// tcpWidths has the bits of each field; they stand one behind the other, from the header's first bit on.
var tcpWidths = [tcpFields]int{16, 16, 32, 32, 4, 4, 8, 16, 16, 16}

const (
	tcp        = 6  // by which a datagram of IP says that it carries one
	tcpHead    = 20 // bytes of a header without options
	tcpSumByte = 16 // where in it the sum stands
	unit       = 4  // bytes that the field of the header's length counts as one
)

// ParseTcp reads a segment; its Data is a window of b.
func ParseTcp(src, dst api.IP, b []byte) (api.Tcp, api.Errno) {
	if len(b) > api.MaxBytes {
		return api.Tcp{}, api.ErrLong
	}
	if !fit(src, dst) {
		return api.Tcp{}, api.ErrFamily
	}
	w := tcpWidths
	l, bare, e := view.Fields(b, 0, w[:]...)
	if e != api.OK {
		return api.Tcp{}, api.ErrTcpShort
	}
	head := l[tcpLength] * unit
	if head < bare || head > len(b) {
		return api.Tcp{}, api.ErrTcpHead
	}
	if !good(src, dst, tcp, b) {
		return api.Tcp{}, api.ErrTcpSum
	}
	t := segment(l)
	if t.Opts, e = TcpOptions(b[bare:head]); e != api.OK {
		return api.Tcp{}, e
	}
	if t.Data, e = view.Window(b, head, len(b)-head); e != api.OK {
		return api.Tcp{}, e
	}
	return t, api.OK
}

// PutTcp writes a segment.
func PutTcp(src, dst api.IP, t api.Tcp) ([]byte, api.Errno) {
	if !fit(src, dst) {
		return nil, api.ErrFamily
	}
	if e := CheckTcp(t); e != api.OK {
		return nil, e
	}
	opts, e := PutTcpOptions(t.Opts)
	if e != api.OK {
		return nil, e
	}
	size := tcpSize(opts, t.Data)
	w := tcpWidths
	head, e := view.Pack(w[:], []int{t.Sport, t.Dport, t.Seq, t.Ack, (tcpHead + len(opts)) / unit, 0, t.Flags, t.Win, 0, t.Urg})
	if e != api.OK {
		return nil, e
	}
	p, e := sum.Pseudo(src, dst, tcp, size)
	if e != api.OK {
		return nil, e
	}
	return joined(size, tcpSumByte, sum.Check(p, head, opts, t.Data), head, opts, t.Data)
}

// CheckTcp tells whether the values may be a segment.
func CheckTcp(t api.Tcp) api.Errno {
	if !fieldsMayBe(t) {
		return api.ErrL4Field
	}
	opts, e := PutTcpOptions(t.Opts)
	if e != api.OK {
		return e
	}
	if tcpSize(opts, t.Data) > api.MaxBytes {
		return api.ErrLong
	}
	return api.OK
}

// segment is what the fields tell of one: all but its options and data.
func segment(l []int) api.Tcp {
	return api.Tcp{
		Sport: l[tcpSport], Dport: l[tcpDport], Seq: l[tcpSeq], Ack: l[tcpAck],
		Flags: l[tcpFlags], Win: l[tcpWin], Urg: l[tcpUrg],
	}
}

// fieldsMayBe tells whether each field is within its bounds.
func fieldsMayBe(t api.Tcp) bool {
	return within(t.Sport, maxWord) && within(t.Dport, maxWord) &&
		within(t.Seq, maxLong) && within(t.Ack, maxLong) &&
		within(t.Flags, maxByte) && within(t.Win, maxWord) && within(t.Urg, maxWord)
}

// tcpSize is how many bytes a segment has.
func tcpSize(opts, data []byte) int { return tcpHead + len(opts) + len(data) }
