package rules

import (
	"strconv"
	"strings"

	"weir/addr"
	"weir/api"
)

// acts and kinds: each word's place is its number; a word that is nothing stands for none.
var (
	acts  = [...]string{api.APermit: "permit", api.ADeny: "deny", api.AReject: "reject"}
	kinds = [...]string{api.PArp: "arp", api.PIp4: "ip4", api.PIp6: "ip6"}
)

// protos: the protocols that have a word of their own; of all others the number stands behind the last one.
var protos = [...]struct {
	word   string
	number int
}{
	{"tcp", protoTcp},
	{"udp", protoUdp},
	{"icmp", protoIcmp},
	{"icmp6", protoIcmp6},
	{"proto", 0},
}

// flags: each word's place is the number of its bit.
var flags = [...]string{"fin", "syn", "rst", "psh", "ack", "urg", "ece", "cwr"}

func blank(c byte) bool { return c == ' ' || c == '\t' }

// stray is the place of the first byte that is no blank and belongs to no word; the line's length, if there is none.
func stray(line string) int {
	for i := range len(line) {
		if c := line[i]; !blank(c) && (c < '!' || c > '~') {
			return i
		}
	}
	return len(line)
}

// passed tells whether a line is none of the rules of a text.
func passed(line string) bool {
	rest := strings.TrimLeft(line, " \t")
	return rest == "" || rest[0] == '#'
}

func numberOf(text string, low, high int) (int, bool) {
	n, err := strconv.Atoi(text)
	// Atoi reads signs and leading zeros too; what it read is written without them
	return n, err == nil && strconv.Itoa(n) == text && within(n, low, high)
}

func netOf(text string) (api.Prefix, bool) {
	if p, e, _ := addr.ParsePrefix(text); e == api.OK {
		return p, true
	}
	ip, e, _ := addr.ParseIP(text)
	return api.Prefix{IP: ip, Len: bits(ip)}, e == api.OK
}

func rangeOf(text string) (api.Range, bool) {
	first, second, two := strings.Cut(text, "-")
	if !two {
		second = first
	}
	low, ok := numberOf(first, 0, maxPort)
	high, right := numberOf(second, low, maxPort)
	return api.Range{Lo: low, Hi: high}, ok && right
}

// bitOf is the bit of a flag's word; 0, if it is none.
func bitOf(text string) int {
	for i, word := range flags {
		if word == text {
			return 1 << i
		}
	}
	return 0
}

// bits is how many bits an address has.
func bits(ip api.IP) int {
	if ip.V == 4 {
		return 32
	}
	return 128
}
