package desk

import (
	"strconv"
	"strings"

	"weir/addr"
	"weir/api"
	"weir/packet"
)

const (
	fine     = "ok"
	nothing  = "none"
	maxTicks = 1000 // of one line
)

// command is a line of a script: how it must be, and what it does.
type command struct {
	form
	do func([]value) string
}

// commands are all of them.
func (d *Desk) commands() []command {
	number, frame := slot{kind: aNumber}, slot{kind: aFrame}
	return []command{
		{form{word: "arrive", must: []slot{number, frame}}, d.arrive},
		{form{word: "refill", must: []slot{number, number}}, d.refill},
		{form{word: "poll", must: []slot{number}}, d.poll},
		{form{word: "tick", may: []slot{number}}, d.tick},
		{form{word: "drain", must: []slot{number}}, d.drain},
		{form{word: "counts"}, d.counts},
		{form{word: "kept"}, d.kept},
		{form{word: "neighbours"}, d.neighbours},
		{form{word: "flows"}, d.flows},
		{form{word: "normal", must: []slot{frame}}, d.normal},
		{form{word: "capture"}, d.capture},
	}
}

// play does what the line says, if it is of the command's form.
func (c command) play(r *reader) string {
	l := r.values(c.form)
	if r.err != api.OK {
		return r.err.Error()
	}
	return c.do(l)
}

func (d *Desk) arrive(l []value) string {
	port, b := l[0].number, l[1].frame
	if e := d.box.Arrive(port, b); e != api.OK {
		return e.Error()
	}
	d.see(port, false, b)
	return fine
}

func (d *Desk) refill(l []value) string { return strconv.Itoa(d.box.Refill(l[0].number, l[1].number)) }

func (d *Desk) poll(l []value) string { return strconv.Itoa(d.box.Poll(l[0].number)) }

func (d *Desk) tick(l []value) string {
	n := 1
	if l[0].said {
		n = l[0].number
	}
	if n > maxTicks {
		return api.ErrDeskLine.Error()
	}
	for range n {
		d.box.Tick()
	}
	d.ticks += n
	return fine
}

func (d *Desk) drain(l []value) string {
	port := l[0].number
	b, ok := d.box.Drain(port)
	if !ok {
		return nothing
	}
	d.see(port, true, b)
	return bytesText(b)
}

// see keeps a frame for the capture.
func (d *Desk) see(port int, out bool, b []byte) {
	d.seen = append(d.seen, api.Capture{Tick: d.ticks, Port: port, Out: out, Data: b})
}

func (d *Desk) counts([]value) string {
	n := d.box.Counts()
	text := named("in", n.In) + " " + named("out", n.Out) + " " + named("used", n.Used) + " " + named("made", n.Made)
	for _, drop := range n.Drops {
		text += " " + strconv.Itoa(int(drop.Reason)) + ":" + strconv.Itoa(drop.N)
	}
	return text
}

func (d *Desk) kept([]value) string {
	k := d.box.Kept()
	return named("rx", k.Rx) + " " + named("frags", k.Frags) + " " + named("waiting", k.Waiting) + " " + named("queued", k.Queued) + " " + named("tx", k.Tx)
}

func named(name string, n int) string { return name + " " + strconv.Itoa(n) }

func (d *Desk) neighbours([]value) string { return counted(d.box.Neighbours(), neighbourText) }

func (d *Desk) flows([]value) string { return counted(d.box.Flows(), flowText) }

// counted tells how many there are, and each of them.
func counted[T any](l []T, text func(T) string) string {
	words := []string{strconv.Itoa(len(l))}
	for _, x := range l {
		words = append(words, text(x))
	}
	return strings.Join(words, " ")
}

func neighbourText(n api.Neighbour) string {
	return strings.Join([]string{
		strconv.Itoa(n.Port),
		addressText(n.IP),
		addr.PrintMac(n.Mac),
		strconv.Itoa(n.State),
		strconv.Itoa(n.Waiting),
	}, ",")
}

func flowText(f api.Flow) string {
	return strings.Join([]string{
		strconv.Itoa(f.Tuple.Proto),
		addressText(f.Tuple.Src),
		strconv.Itoa(f.Tuple.Sport),
		addressText(f.Tuple.Dst),
		strconv.Itoa(f.Tuple.Dport),
		strconv.Itoa(f.Port),
		strconv.Itoa(f.State),
		strconv.Itoa(f.Left),
	}, ",")
}

func (d *Desk) normal(l []value) string { return frameText(packet.Normal(l[0].frame)) }

func (d *Desk) capture([]value) string { return frameText(WriteCapture(d.seen...)) }

// frameText tells bytes, or why there are none.
func frameText(b []byte, e api.Errno) string {
	if e != api.OK {
		return e.Error()
	}
	return bytesText(b)
}
