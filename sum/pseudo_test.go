package sum_test

import (
	"bytes"
	"math"
	"testing"

	"weir/api"
	"weir/sum"
)

func four(a, b, c, d byte) api.IP { return api.IP{V: 4, A: [16]byte{a, b, c, d}} }

func six(a ...byte) api.IP {
	ip := api.IP{V: 6}
	copy(ip.A[:], a)
	return ip
}

var (
	loop  = api.IP{V: 6, A: [16]byte{15: 1}}
	whole = six(0x20, 0x01, 0x0d, 0xb8, 4, 5, 6, 7, 8, 9, 10, 11, 12, 13, 14, 15)
)

// 2.4
func TestPseudoOfVersion4(t *testing.T) {
	rows := []struct {
		src, dst api.IP
		proto, n int
		want     []byte
	}{
		{four(10, 0, 0, 1), four(10, 0, 0, 2), 17, 9, []byte{10, 0, 0, 1, 10, 0, 0, 2, 0, 17, 0, 9}},
		{four(1, 2, 3, 4), four(255, 254, 253, 252), 255, 65535, []byte{1, 2, 3, 4, 255, 254, 253, 252, 0, 255, 255, 255}},
		{four(0, 0, 0, 0), four(0, 0, 0, 0), 0, 0, make([]byte, 12)},
		{four(9, 8, 7, 6), four(9, 8, 7, 6), 6, 0x1234, []byte{9, 8, 7, 6, 9, 8, 7, 6, 0, 6, 0x12, 0x34}},
	}
	for _, r := range rows {
		if b, e := sum.Pseudo(r.src, r.dst, r.proto, r.n); !bytes.Equal(b, r.want) || e != api.OK {
			t.Errorf("Pseudo(%v, %v, %d, %d) = %v, %d", r.src, r.dst, r.proto, r.n, b, e)
		}
	}
}

// 2.4
func TestPseudoOfVersion6(t *testing.T) {
	rows := []struct {
		src, dst api.IP
		proto, n int
		tail     []byte
	}{
		{whole, loop, 58, 0x1234, []byte{0, 0, 0x12, 0x34, 0, 0, 0, 58}},
		{loop, whole, 255, 65535, []byte{0, 0, 255, 255, 0, 0, 0, 255}},
		{six(), six(), 0, 0, make([]byte, 8)},
		{whole, whole, 6, 1, []byte{0, 0, 0, 1, 0, 0, 0, 6}},
	}
	for _, r := range rows {
		want := append(append(append([]byte{}, r.src.A[:]...), r.dst.A[:]...), r.tail...)
		if b, e := sum.Pseudo(r.src, r.dst, r.proto, r.n); !bytes.Equal(b, want) || e != api.OK {
			t.Errorf("Pseudo(%v, %v, %d, %d) = %v, %d", r.src, r.dst, r.proto, r.n, b, e)
		}
	}
}

// 2.4
func TestPseudoRefusesAddresses(t *testing.T) {
	good4, good6 := four(10, 0, 0, 1), loop
	rows := [][2]api.IP{{good4, good6}, {good6, good4}, {{}, {}}, {good4, {}}, {{}, good4}, {good6, {}}, {{}, good6}}
	for i := 4; i < 16; i++ {
		bad := good4
		bad.A[i] = byte(1 << (i % 8))
		rows = append(rows, [2]api.IP{bad, good4}, [2]api.IP{good4, bad}, [2]api.IP{bad, bad}, [2]api.IP{bad, good6})
	}
	for _, v := range []int{math.MinInt, -4, -1, 0, 1, 3, 5, 7, 46, 64, 260, 262, 1<<32 + 4, 1<<32 + 6, math.MaxInt} {
		bad := api.IP{V: v, A: good4.A}
		rows = append(rows, [2]api.IP{bad, bad}, [2]api.IP{good4, bad}, [2]api.IP{bad, good4}, [2]api.IP{good6, bad}, [2]api.IP{bad, good6})
	}
	for _, r := range rows {
		for _, n := range [][2]int{{17, 9}, {256, 9}, {17, -1}, {-1, 65536}} { // the addresses come first
			if b, e := sum.Pseudo(r[0], r[1], n[0], n[1]); len(b) != 0 || e != api.ErrFamily {
				t.Errorf("Pseudo(%v, %v, %d, %d) = %v, %d", r[0], r[1], n[0], n[1], b, e)
			}
		}
	}
}

// 2.4
func TestPseudoRefusesNumbers(t *testing.T) {
	for _, a := range []api.IP{four(10, 0, 0, 1), loop} {
		for _, proto := range []int{math.MinInt, -256, -1, 256, 257, 65535, 1<<32 + 17, math.MaxInt} {
			for _, n := range []int{0, 9, 65535, 65536, -1} {
				if b, e := sum.Pseudo(a, a, proto, n); len(b) != 0 || e != api.ErrArg {
					t.Errorf("Pseudo(.., %d, %d) = %v, %d", proto, n, b, e)
				}
			}
		}
		for _, n := range noWords {
			for _, proto := range []int{0, 17, 255, 256} {
				if b, e := sum.Pseudo(a, a, proto, n); len(b) != 0 || e != api.ErrArg {
					t.Errorf("Pseudo(.., %d, %d) = %v, %d", proto, n, b, e)
				}
			}
		}
	}
}

// 2.4, 2.7: a message is good together with what lies in other places.
func TestPseudoIsPartOfASum(t *testing.T) {
	message := []byte{0x12, 0x34, 0x00, 0x35, 0, 9, 0, 0, 0x61}
	for _, a := range []api.IP{four(192, 168, 0, 7), whole} {
		pseudo, e := sum.Pseudo(a, a, 17, len(message))
		if e != api.OK {
			t.Fatal(e)
		}
		setWord(message, 6, 0)
		setWord(message, 6, sum.Check(pseudo, message[:8], message[8:]))
		if !sum.Good(pseudo, message[:8], message[8:]) || sum.Good(message[:8], message[8:]) {
			t.Errorf("%v: %x", a, message)
		}
	}
}

// 2.11
func TestPseudoIsNewMemory(t *testing.T) {
	for _, a := range []api.IP{four(10, 0, 0, 1), whole} {
		first, _ := sum.Pseudo(a, a, 17, 9)
		want := bytes.Clone(first)
		second, _ := sum.Pseudo(a, a, 17, 9)
		for i := range first[:cap(first)] {
			first[:cap(first)][i] = 0xee
		}
		third, _ := sum.Pseudo(a, a, 17, 9)
		if !bytes.Equal(second, want) || !bytes.Equal(third, want) {
			t.Errorf("%v: %x, then %x, then %x", a, want, second, third)
		}
	}
}
