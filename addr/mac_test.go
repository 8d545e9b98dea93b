package addr_test

import (
	"math/rand"
	"strings"
	"testing"

	"weir/addr"
	"weir/api"
)

// 4.7
func TestMac(t *testing.T) {
	rows := []struct {
		s, printed string
		want       api.Mac
	}{
		{"00:1A:2b:3c:4d:5e", "00:1a:2b:3c:4d:5e", api.Mac{0, 0x1a, 0x2b, 0x3c, 0x4d, 0x5e}}, {"00:00:00:00:00:00", "00:00:00:00:00:00", api.Mac{}}, {"ff:FF:fF:Ff:ff:ff", "ff:ff:ff:ff:ff:ff", api.Mac{255, 255, 255, 255, 255, 255}}, {"01:23:45:67:89:ab", "01:23:45:67:89:ab", api.Mac{1, 0x23, 0x45, 0x67, 0x89, 0xab}}, {"cd:ef:CD:EF:0a:A0", "cd:ef:cd:ef:0a:a0", api.Mac{0xcd, 0xef, 0xcd, 0xef, 0x0a, 0xa0}},
	}
	for _, r := range rows {
		if m, e, p := addr.ParseMac(r.s); m != r.want || e != api.OK || p != 0 {
			t.Errorf("ParseMac(%q) = %x, %d, %d", r.s, m, e, p)
		}
		if s := addr.PrintMac(r.want); s != r.printed {
			t.Errorf("PrintMac(%x) = %q, want %q", r.want, s, r.printed)
		}
	}
}

// 4.7
func TestParseMacRefuses(t *testing.T) {
	rows := []struct {
		s     string
		why   api.Errno
		place int
	}{
		{"001A", api.ErrText, 2}, {"00-00", api.ErrText, 2}, {"0g:00:00:00:00:00", api.ErrText, 1}, {"g0", api.ErrText, 0}, {":", api.ErrText, 0}, {"0:1:2:3:4:5", api.ErrText, 1}, {"00:1:2:3:4:5", api.ErrText, 4}, {"00::1", api.ErrText, 3}, {" 0:00:00:00:00:00", api.ErrText, 0}, {"001a2b3c4d5e", api.ErrText, 2}, {"001a.2b3c.4d5e", api.ErrText, 2}, {"00:1a:2b:3c:4d:5é", api.ErrLong, 17}, {"00:1a:2b:3c:4d:é", api.ErrText, 15}, {"00:1a:2b:3c:4d:5 ", api.ErrText, 16}, {"00:1a:2b:3c:4d5e:", api.ErrText, 14}, {"00:1a:2b:3c:4d:x", api.ErrText, 15}, {"00\x0000", api.ErrText, 2}, {"/0", api.ErrText, 0}, {"@0", api.ErrText, 0}, {"`0", api.ErrText, 0}, {"0G", api.ErrText, 1},
		{"00:00:00:00:00:000", api.ErrLong, 17}, {"00:00:00:00:00:00:", api.ErrLong, 17}, {"00:00:00:00:00:00 ", api.ErrLong, 17}, {strings.Repeat("x", 18), api.ErrLong, 17}, {strings.Repeat("x", 17), api.ErrText, 0}, {strings.Repeat("0", 1<<20), api.ErrLong, 17},
	}
	for n := range 17 {
		rows = append(rows, struct {
			s     string
			why   api.Errno
			place int
		}{"00:1A:2b:3c:4d:5e"[:n], api.ErrCut, n})
	}
	for _, r := range rows {
		if m, e, p := addr.ParseMac(r.s); m != (api.Mac{}) || e != r.why || p != r.place {
			t.Errorf("ParseMac(%q) = %x, %d, %d, want %d at %d", r.s, m, e, p, r.why, r.place)
		}
	}
}

// 4.7: each byte at each place.
func TestParseMacOfAnyByte(t *testing.T) {
	good := "00:1a:2b:3c:4d:5e"
	for at := range len(good) {
		for b := range 256 {
			s := good[:at] + string([]byte{byte(b)}) + good[at+1:]
			right := strings.IndexByte("0123456789abcdefABCDEF", byte(b)) >= 0
			if at%3 == 2 {
				right = b == ':'
			}
			m, e, p := addr.ParseMac(s)
			if right && (e != api.OK || p != 0 || addr.PrintMac(m) != strings.ToLower(s)) {
				t.Errorf("ParseMac(%q) = %x, %d, %d", s, m, e, p)
			}
			if !right && (m != api.Mac{} || e != api.ErrText || p != at) {
				t.Errorf("ParseMac(%q) = %x, %d, %d", s, m, e, p)
			}
		}
	}
}

// 4.8
func TestOneWritingOfLinkAddresses(t *testing.T) {
	texts := map[string]api.Mac{}
	r := rand.New(rand.NewSource(7))
	for range 10000 {
		var m api.Mac
		for i := range m {
			m[i] = byte(r.Intn(256)) * byte(r.Intn(2))
		}
		s := addr.PrintMac(m)
		if back, e, p := addr.ParseMac(s); back != m || e != api.OK || p != 0 {
			t.Fatalf("ParseMac(%q) = %x, %d, %d, want %x", s, back, e, p, m)
		}
		if n, ok := texts[s]; ok && m != n {
			t.Fatalf("%x and %x are both %q", m, n, s)
		}
		texts[s] = m
	}
}
