package addr_test

import (
	"math/rand"
	"net/netip"
	"regexp"
	"strconv"
	"strings"
	"testing"

	"weir/addr"
	"weir/api"
)

// The reading of 4.3 a second time, of errors alone: by patterns, each held against what is left of the text.
var (
	decimals = regexp.MustCompile(`^[0-9]*`)
	hexes    = regexp.MustCompile(`^[0-9a-fA-F]*`)
)

func cutOrText(s string, at int) (api.Errno, int) {
	if at == len(s) {
		return api.ErrCut, at
	}
	return api.ErrText, at
}

func fourModel(s string, at int) (api.Errno, int) {
	for i := range 4 {
		d := decimals.FindString(s[at:])
		if d == "" {
			return cutOrText(s, at)
		}
		if n, err := strconv.Atoi(d); err != nil || n > 255 || strconv.Itoa(n) != d {
			return api.ErrGroup, at
		}
		at += len(d)
		if i < 3 {
			if at == len(s) || s[at] != '.' {
				return cutOrText(s, at)
			}
			at++
		}
	}
	if at < len(s) {
		return api.ErrText, at
	}
	return api.OK, 0
}

// sixModel reads on at a place where a group should stand, with so many groups and maybe a :: behind it.
func sixModel(s string, at, groups int, gap bool) (api.Errno, int) {
	d := hexes.FindString(s[at:])
	if d == "" {
		return cutOrText(s, at)
	}
	room := 8 - groups
	if gap {
		room--
	}
	behind := s[at+len(d):]
	if strings.HasPrefix(behind, ".") && (groups > 0 || gap) {
		if room < 2 {
			return api.ErrGroups, at
		}
		if e, p := fourModel(s, at); e != api.OK {
			return e, p
		}
		groups, at = groups+2, len(s)
	} else if room < 1 {
		return api.ErrGroups, at
	} else if len(d) > 4 {
		return api.ErrGroup, at
	} else {
		groups, at = groups+1, at+len(d)
	}
	left := s[at:]
	switch {
	case left == "" && (gap || groups == 8):
		return api.OK, 0
	case left == "":
		return api.ErrCut, at
	case strings.HasPrefix(left, "::") && (gap || groups == 8):
		return api.ErrGroups, at
	case left == "::":
		return api.OK, 0
	case strings.HasPrefix(left, "::"):
		return sixModel(s, at+2, groups, true)
	case left[0] == ':':
		return sixModel(s, at+1, groups, gap)
	}
	return api.ErrText, at
}

func model(s string) (api.Errno, int) {
	switch {
	case len(s) > 45:
		return api.ErrLong, 45
	case !strings.Contains(s, ":"):
		return fourModel(s, 0)
	case s == "::":
		return api.OK, 0
	case strings.HasPrefix(s, "::"):
		return sixModel(s, 2, 0, true)
	}
	return sixModel(s, 0, 0, false)
}

// agree holds ParseIP against the model, and what it takes against the standard library too.
func agree(t *testing.T, s string) {
	t.Helper()
	got, e, p := addr.ParseIP(s)
	why, place := model(s)
	if e != why || p != place {
		t.Fatalf("ParseIP(%q) = %v, %d, %d, want %d at %d", s, got, e, p, why, place)
	}
	want := api.IP{}
	if a, err := netip.ParseAddr(s); err == nil && a.Zone() == "" {
		want = known(a)
	}
	if got != want || (e == api.OK) != (want.V != 0) {
		t.Fatalf("ParseIP(%q) = %v, %d, the library has %v", s, got, e, want)
	}
}

// 4.3: every short text of a few bytes.
func TestParseIPOfEveryShortText(t *testing.T) {
	const alphabet = "01a:.x"
	var try func(s string, left int)
	try = func(s string, left int) {
		agree(t, s)
		if left == 0 {
			return
		}
		for _, c := range alphabet {
			try(s+string(c), left-1)
		}
	}
	try("", 6)
}

// 4.3: texts of parts that are near to an address.
func TestParseIPOfTextsNearAnAddress(t *testing.T) {
	parts := strings.Fields(": : : : :: . . 1 2 0 ff abcd 00 012 255 256 12345 1.2.3.4 0.0.0.0 1.2.3 10.20.30.400 x 1:2:3 4:5:6:7 F")
	r := rand.New(rand.NewSource(8))
	for range 60000 {
		var s strings.Builder
		for range r.Intn(12) {
			s.WriteString(parts[r.Intn(len(parts))])
		}
		agree(t, s.String())
	}
}

// 4.3: an address's text with one byte changed, left out or put in.
func TestParseIPOfSpoiltTexts(t *testing.T) {
	const alphabet = "0129afAF:.gG/%- \x00\xff"
	r := rand.New(rand.NewSource(9))
	for range 40000 {
		a := someIP(r)
		s := lib(a).String()
		if a.V == 6 && r.Intn(2) == 0 {
			s = lib(a).StringExpanded()
		}
		agree(t, s)
		at, c := r.Intn(len(s)), string(alphabet[r.Intn(len(alphabet))])
		agree(t, s[:at]+c+s[at+1:])
		agree(t, s[:at]+s[at+1:])
		agree(t, s[:at]+c+s[at:])
		agree(t, s[:at])
	}
}

// 4.14: whatever is handed in, every call answers, and a second time the same.
func TestEveryCallAnswers(t *testing.T) {
	r := rand.New(rand.NewSource(10))
	for range 5000 {
		b := make([]byte, r.Intn(60))
		for i := range b {
			b[i] = byte(r.Intn(256))
			if r.Intn(2) == 0 {
				b[i] = ":./0123456789abcdef"[r.Intn(19)]
			}
		}
		s := string(b)
		values := api.IP{V: versions[r.Intn(len(versions))]}
		if r.Intn(2) == 0 {
			values.V = 4 + 2*r.Intn(2)
		}
		for i := range values.A {
			values.A[i] = byte(r.Intn(256)) * byte(r.Intn(2))
		}
		p := prefix(values, versions[r.Intn(len(versions))])
		if first, second := all(s, values, p), all(s, values, p); first != second {
			t.Fatalf("%q, %v, %v: %v, then %v", s, values, p, first, second)
		}
	}
}

// all is what every call answers.
func all(s string, ip api.IP, p api.Prefix) [24]any {
	var a [24]any
	a[0], a[1], a[2] = addr.ParseIP(s)
	a[3], a[4] = addr.PrintIP(ip)
	a[5], a[6], a[7] = addr.ParsePrefix(s)
	a[8], a[9] = addr.PrintPrefix(p)
	a[10], a[11], a[12] = addr.ParseMac(s)
	a[13] = addr.PrintMac(api.Mac(ip.A[:6]))
	a[14], a[15] = addr.Valid(ip), addr.ValidPrefix(p)
	a[16], a[17] = addr.Mask(ip, p.Len)
	a[18], a[19] = addr.Contains(p, ip), addr.Class(ip)
	a[20], a[21] = addr.GroupMac(ip)
	a[22], a[23] = addr.Solicited(ip)
	return a
}
