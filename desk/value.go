package desk

import (
	"strconv"
	"strings"

	"weir/addr"
	"weir/api"
	"weir/rules"
)

// The kinds of values.
const (
	aNumber = iota
	aMac
	anAddress
	aPrefix
	aNet // an address, which may have bits behind the length of its net
	aRule
	aFrame
)

// value is what a word, or the words of a rule, say; its kind tells in which field.
type value struct {
	said   bool // the line has it
	number int
	mac    api.Mac
	ip     api.IP
	net    api.Prefix
	rule   string // its canonical line
	frame  []byte
}

// valueOf reads a value, or tells where in the text it is none.
func valueOf(kind int, text string) (v value, e api.Errno, place int) {
	ok := true
	switch kind {
	case aNumber:
		v.number, ok = numberOf(text)
	case aFrame:
		v.frame, ok = bytesOf(text)
	case aMac:
		v.mac, e, place = addr.ParseMac(text)
	case anAddress:
		v.ip, e, place = addr.ParseIP(text)
	case aPrefix:
		v.net, e, place = addr.ParsePrefix(text)
	case aNet:
		v.net, e, place = netOf(text)
	case aRule:
		v.rule, e, place = ruleOf(text)
	}
	if !ok {
		e = api.ErrDeskLine
	}
	return v, e, place
}

// netOf reads an address with a length that need not fit it: that is asked of the configuration as a whole.
func netOf(text string) (api.Prefix, api.Errno, int) {
	head, tail, ok := strings.Cut(text, "/")
	if !ok {
		return api.Prefix{}, api.ErrCut, len(text)
	}
	ip, e, place := addr.ParseIP(head)
	if e != api.OK {
		return api.Prefix{}, e, place
	}
	n, ok := numberOf(tail)
	if !ok {
		return api.Prefix{}, api.ErrLength, len(head) + 1
	}
	return api.Prefix{IP: ip, Len: n}, api.OK, 0
}

// ruleOf is the canonical line of a rule.
func ruleOf(text string) (string, api.Errno, int) {
	r, e, place := rules.ParseRule(text)
	if e != api.OK {
		return "", e, place
	}
	line, e := rules.PrintRule(r)
	return line, e, 0
}

// text is a value of a configuration as it is written.
func (v value) text(kind int) string {
	switch kind {
	case aMac:
		return addr.PrintMac(v.mac)
	case anAddress:
		return addressText(v.ip)
	case aPrefix, aNet:
		return addressText(v.net.IP) + "/" + strconv.Itoa(v.net.Len)
	case aRule:
		return v.rule
	}
	return strconv.Itoa(v.number)
}

func addressText(ip api.IP) string {
	text, _ := addr.PrintIP(ip) // it is one: the box was asked, or told it
	return text
}
