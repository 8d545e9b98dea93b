package box_test

import (
	"fmt"
	"slices"
	"testing"

	"weir/api"
	"weir/box"
)

// appliance is a box or its model.
type appliance interface {
	Arrive(port int, b []byte) api.Errno
	Refill(port, n int) int
	Poll(n int) int
	Tick()
	Drain(port int) ([]byte, bool)
	Counts() api.Counts
	Kept() api.Kept
	Neighbours() []api.Neighbour
	Flows() []api.Flow
}

// both makes one call of two appliances, and tells it with what each answered.
func both(x, y appliance, name string, call func(appliance) string) (string, string, string) {
	return name, call(x), call(y)
}

// told is all that an appliance tells of itself.
func told(x appliance) string {
	return fmt.Sprintf("%+v %+v %+v %+v", x.Counts(), x.Kept(), x.Neighbours(), x.Flows())
}

// alike tells whether two appliances tell the same of themselves.
func alike(x, y appliance) bool {
	a, b := x.Counts(), y.Counts()
	return a.In == b.In && a.Out == b.Out && a.Used == b.Used && a.Made == b.Made && slices.Equal(a.Drops, b.Drops) &&
		x.Kept() == y.Kept() && slices.Equal(x.Neighbours(), y.Neighbours()) && slices.Equal(x.Flows(), y.Flows())
}

// script plays drawn calls; each is told to the box and to its model, which must answer alike (W1).
type script struct {
	*testing.T
	*dice
	x, y    appliance
	replies [][2]any // a port, and a frame that comes to it
}

// step is one drawn call.
func (s *script) step() {
	port := s.Intn(len(s.c.Ports))
	var name, got, want string
	switch k := s.Intn(20); {
	case k < 3:
		n := s.of(-1, 0, 1, 4, 100)
		name, got, want = both(s.x, s.y, fmt.Sprintf("Refill(%d, %d)", port, n), func(a appliance) string { return fmt.Sprint(a.Refill(port, n)) })
	case k < 11:
		b := s.frame(port)
		if len(s.replies) > 0 && s.once(2) {
			port, b = s.replies[0][0].(int), s.replies[0][1].([]byte)
			s.replies = s.replies[1:]
		}
		if s.once(60) {
			port = s.of(-1, len(s.c.Ports), 8)
		}
		alone := s.once(4)
		name, got, want = both(s.x, s.y, fmt.Sprintf("Arrive(%d, %x)", port, b), func(a appliance) string {
			if alone {
				return fmt.Sprint(a.Arrive(port, b))
			}
			return fmt.Sprint(a.Refill(port, 1), a.Arrive(port, b), a.Poll(1))
		})
	case k < 13:
		n := s.of(-1, 0, 1, 2, 2, 9, 9)
		name, got, want = both(s.x, s.y, fmt.Sprintf("Poll(%d)", n), func(a appliance) string { return fmt.Sprint(a.Poll(n)) })
	case k == 13:
		name, got, want = both(s.x, s.y, "Tick()", func(a appliance) string { a.Tick(); return "" })
	default:
		name, got, want = both(s.x, s.y, fmt.Sprintf("Drain(%d)", port), func(a appliance) string {
			b, ok := a.Drain(port)
			if a == s.x && ok {
				s.drained(port, b)
			}
			return fmt.Sprintf("%x %v", b, ok)
		})
	}
	if got != want {
		s.Fatalf("%s\nanswers %s\nwant    %s\nof %+v", name, got, want, s.c)
	}
	if !alike(s.x, s.y) {
		s.Fatalf("behind %s\nit tells %s\nwant     %s\nof %+v", name, told(s.x), told(s.y), s.c)
	}
}

// drained looks at a frame that left, and has it answered.
func (s *script) drained(port int, b []byte) {
	if wrong := vouches(s.c, port, b); wrong != "" {
		s.Fatalf("port %d tells %x: %s", port, b, wrong)
	}
	if r := s.reply(port, b); r != nil && len(s.replies) < 20 && !s.once(4) {
		s.replies = append(s.replies, [2]any{port, r})
	}
}

// 19.3 to 19.20, W1, W3, W4, W5: whatever the configuration and whatever is called, the box answers what the second reading
// of the chapter says; every packet is named, every frame that leaves is right, and no two flows share an outside port.
func TestAgainstTheModel(t *testing.T) {
	seen := map[api.Errno]int{}
	var sum api.Counts
	for seed := range int64(400) {
		d := rolled(seed)
		x, e := box.New(d.c)
		if e != api.OK {
			t.Fatal(e)
		}
		s := &script{T: t, dice: d, x: x, y: newModel(d.c)}
		b := &bench{t, x, len(d.c.Ports)}
		for range 400 {
			s.step()
			b.balances()
			if shared(x.Flows()) {
				t.Fatalf("flows share a port: %+v", x.Flows())
			}
		}
		n := x.Counts()
		sum.Out, sum.Used, sum.Made = sum.Out+n.Out, sum.Used+n.Used, sum.Made+n.Made
		for _, r := range n.Drops {
			seen[r.Reason] += r.N
		}
	}
	t.Logf("out %d, used %d, made %d, dropped %v", sum.Out, sum.Used, sum.Made, seen)
	for _, e := range []api.Errno{
		api.ErrRxFull, api.ErrTxFull, api.ErrBig, api.ErrPool, api.ErrRunt, api.ErrEther, api.ErrIp4Sum, api.ErrIp4TTL, api.ErrHop6, api.ErrNdShort,
		api.ErrTable, api.ErrDuplicate, api.ErrOverlap, api.ErrFinished, api.ErrLate, api.ErrDF, api.ErrTight, api.ErrNoNeigh, api.ErrWaiting, api.ErrNoAnswer,
		api.ErrFlows, api.ErrPorts, api.ErrState, api.ErrProto, api.ErrNoFlow, api.ErrClass, api.ErrQFull,
		api.ErrNotMine, api.ErrVlan, api.ErrStranger, api.ErrMartian, api.ErrLocal, api.ErrDenied, api.ErrNoRoute, api.ErrTooBig, api.ErrNdHop,
	} {
		if seen[e] == 0 {
			t.Errorf("no packet was dropped for %d: the drawn scripts say nothing of it", e)
		}
	}
}

// 19.20: two boxes that are called alike tell the same, and what is handed in is not kept: here it is written over.
func TestNothingIsKept(t *testing.T) {
	for seed := range int64(60) {
		d := rolled(seed)
		x, _ := box.New(d.c)
		y, _ := box.New(d.c)
		for range 200 {
			port := d.Intn(len(d.c.Ports))
			x.Refill(port, 1)
			y.Refill(port, 1)
			b := d.frame(port)
			room := append(slices.Clone(b), pattern(30)...)
			if e, f := x.Arrive(port, b), y.Arrive(port, room[:len(b)]); e != f {
				t.Fatalf("Arrive = %d, %d", e, f)
			}
			if string(room) != string(b)+string(pattern(30)) {
				t.Fatal("what was handed in was changed")
			}
			clear(room)
			if d.once(4) {
				x.Tick()
				y.Tick()
			}
			x.Poll(2)
			y.Poll(2)
			f, _ := x.Drain(port)
			g, _ := y.Drain(port)
			if string(f) != string(g) || !alike(x, y) {
				t.Fatalf("it tells %x, %s\nand %x, %s", f, told(x), g, told(y))
			}
			clear(g[:cap(g)])
		}
	}
}
