package packet_test

import (
	"math"
	"math/rand"
	"reflect"

	"weir/api"
)

// edges are numbers at which something turns.
var edges = []int{math.MinInt, -1 << 32, -65536, -8, -1, 0, 1, 2, 3, 4, 5, 6, 7, 8, 9, 16, 17, 43, 44, 50, 58, 59, 60, 64, 128, 129, 255, 256, 4094, 4095, 65515, 65528, 65535, 65536, 0x8100, 0x88a8, 1<<20 - 1, 1 << 20, 1<<32 - 1, 1 << 32, math.MaxInt}

// turned is a packet with n things changed, in memory of its own.
func turned(r *rand.Rand, p api.Packet, n int) api.Packet {
	q := copyOf(reflect.ValueOf(p), 0)
	for range n {
		leaves := leavesOf(q)
		turn(r, leaves[r.Intn(len(leaves))])
	}
	return q.Interface().(api.Packet)
}

// leavesOf are the numbers, marks and lists that stand in a value.
func leavesOf(v reflect.Value) []reflect.Value {
	var l []reflect.Value
	switch v.Kind() {
	case reflect.Struct:
		for i := range v.NumField() {
			l = append(l, leavesOf(v.Field(i))...)
		}
	case reflect.Array:
		l = append(l, v.Index(0), v.Index(v.Len()-1))
	case reflect.Slice:
		l = append(l, v)
		for i := range min(v.Len(), 9) {
			l = append(l, leavesOf(v.Index(i))...)
		}
	default:
		l = append(l, v)
	}
	return l
}

// turn changes a leaf.
func turn(r *rand.Rand, v reflect.Value) {
	switch v.Kind() {
	case reflect.Int:
		if n := edges[r.Intn(len(edges))]; r.Intn(2) == 0 {
			v.SetInt(int64(n))
		} else {
			v.SetInt(v.Int() ^ 1<<r.Intn(20))
		}
	case reflect.Uint8:
		v.SetUint(v.Uint() ^ 1<<r.Intn(8))
	case reflect.Bool:
		v.SetBool(!v.Bool())
	case reflect.Slice:
		turnList(r, v)
	}
}

func turnList(r *rand.Rand, v reflect.Value) {
	zero := reflect.Zero(v.Type().Elem())
	switch r.Intn(4) {
	case 0:
		v.Set(reflect.Zero(v.Type()))
	case 1:
		v.Set(v.Slice(0, v.Len()/2))
	case 2:
		v.Set(reflect.Append(v, zero))
	case 3:
		for range 8 {
			v.Set(reflect.Append(v, zero))
		}
	}
}
