package relay_test

import (
	"bytes"
	"fmt"
	"slices"
	"testing"

	"slackwater/api"
	"slackwater/relay"
	"slackwater/view"
)

// Tests of P16.5 and P16.6: relays among which messages are lost, come late, in
// any order and more than once, whose nodes crash, and whose views a control
// picks.

// dice throws the same numbers in each run.
type dice uint64

func (d *dice) next() uint64 {
	*d = *d*6364136223846793005 + 1442695040888963407
	x := uint64(*d)
	return x ^ x>>29
}

func (d *dice) below(n int) int { return int(d.next() >> 8 % uint64(n)) }

// in says true once in n times.
func (d *dice) in(n int) bool { return d.below(n) == 0 }

// What a letter is.
const (
	chat = iota
	leads
	isActive
)

// letter is on its way: a relay's message, a view from the control, or an
// epoch for it.
type letter struct {
	kind, from, to int
	body           []byte
	v              view.View
}

// weather says how often things go wrong: once in so many times.
type weather struct{ lost, twice, crash, torn, change int }

// world is some nodes, what lasts of each, what is between them, and all that
// was ever sure.
type world struct {
	t       *testing.T
	d       *dice
	weather weather
	relays  []*relay.Relay // nil of a node that is down
	disks   [][][]byte
	net     []letter
	control *view.Control
	cmds    int

	agreed []relay.Entry         // what was ever sure
	since  []int                 // the first epoch in which it was
	began  map[int][]relay.Entry // by epochs, a log as it was active first
	counts struct{ crashes, torn, late int }
}

func newWorld(t *testing.T, d *dice, n int, w weather) *world {
	x := &world{t: t, d: d, weather: w, relays: make([]*relay.Relay, n), disks: make([][][]byte, n), began: map[int][]relay.Entry{}}
	for id := range n {
		x.relays[id] = make1(t, id)
	}
	x.control, _ = view.New(x.someNodes(d.below(n)))
	x.tellView()
	return x
}

// someNodes are a node and others.
func (x *world) someNodes(with int) []int {
	var l []int
	for n := range x.relays {
		if n == with || !x.d.in(3) {
			l = append(l, n)
		}
	}
	return l
}

// tellView lets the primary know of the view, and maybe others.
func (x *world) tellView() {
	for n := range x.relays {
		if n != x.control.Now().Primary && x.d.in(2) {
			continue
		}
		x.net = append(x.net, letter{kind: leads, to: n, v: x.control.Now()})
	}
}

// settle lets the records of a node's call last, in order, and then sends its
// messages; the power may go at any place of this.
func (x *world) settle(n int, recs [][]byte, outs []relay.Out) {
	x.t.Helper()
	power := -1
	if x.d.in(x.weather.torn) {
		power = x.d.below(len(recs) + len(outs) + 1)
	}
	for i, b := range recs {
		if i == power {
			x.crash(n)
			x.counts.torn++
			return
		}
		x.disks[n] = append(x.disks[n], b)
	}
	for i, o := range outs {
		if len(recs)+i == power {
			x.crash(n)
			break
		}
		x.net = append(x.net, letter{kind: chat, from: n, to: o.To, body: relay.Encode(o.Msg)})
	}
	if len(recs) > 0 {
		x.wantLasts(n)
	}
	x.look(n)
}

// wantLasts holds that a relay's records tell it as it is.
func (x *world) wantLasts(n int) {
	x.t.Helper()
	loaded := x.load(n)
	if r := x.relays[n]; r != nil && !slices.EqualFunc(r.Save(), loaded.Save(), bytes.Equal) {
		x.t.Fatalf("the node %d is %s, its records tell %s", n, tell(r), tell(loaded))
	}
}

func (x *world) crash(n int) {
	x.relays[n] = nil
	x.counts.crashes++
}

func (x *world) load(n int) *relay.Relay {
	x.t.Helper()
	r, e := relay.Load(n, x.disks[n])
	if e != api.OK {
		x.t.Fatalf("the node %d can't be loaded: error %d", n, e)
	}
	return r
}

// look holds what a relay tells against all that was told.
func (x *world) look(n int) {
	x.t.Helper()
	r := x.relays[n]
	if r == nil {
		return
	}
	epoch, log := r.View().Epoch, r.Log()
	if r.Sure() > len(log) {
		x.t.Fatalf("of %d entries %d are sure", len(log), r.Sure())
	}
	for i, a := range log[:r.Sure()] {
		switch {
		case i == len(x.agreed):
			x.agreed, x.since = append(x.agreed, a), append(x.since, epoch)
			x.wasThere(i)
		case !same(a, x.agreed[i]):
			x.t.Fatalf("P16.5: the entry %d of the node %d is %v, but %v is sure", i, n, a, x.agreed[i])
		case x.since[i] > epoch:
			x.since[i] = epoch
			x.counts.late++
			x.wasThere(i)
		}
	}
	if r.Active() {
		x.began[epoch] = x.begins(epoch, log)
	}
}

func same(a, b relay.Entry) bool { return a.Epoch == b.Epoch && bytes.Equal(a.Cmd, b.Cmd) }

// begins is the log that is active in an epoch, as it was at first.
func (x *world) begins(epoch int, log []relay.Entry) []relay.Entry {
	x.t.Helper()
	first, ok := x.began[epoch]
	if !ok {
		for i := range x.agreed {
			x.stands(epoch, log, i)
		}
		return log
	}
	if len(log) < len(first) || !slices.EqualFunc(first, log[:len(first)], same) {
		x.t.Fatalf("the epoch %d: the log was %v, and is %v", epoch, first, log)
	}
	return first
}

// wasThere holds that what is known to be sure now stood in all logs that were
// active in later epochs.
func (x *world) wasThere(i int) {
	x.t.Helper()
	for epoch, log := range x.began {
		x.stands(epoch, log, i)
	}
}

func (x *world) stands(epoch int, log []relay.Entry, i int) {
	x.t.Helper()
	if x.since[i] < epoch && (i >= len(log) || !same(log[i], x.agreed[i])) {
		x.t.Fatalf("P16.6: %v is sure at %d since the epoch %d, but the log of the epoch %d is %v", x.agreed[i], i, x.since[i], epoch, log)
	}
}

// wantSafe holds that all safe nodes have what is sure.
func (x *world) wantSafe() {
	x.t.Helper()
	for _, n := range x.control.Safe() {
		r := x.relays[n]
		if r == nil {
			r = x.load(n)
		}
		if log := r.Log(); len(log) < len(x.agreed) || !slices.EqualFunc(x.agreed, log[:len(x.agreed)], same) {
			x.t.Fatalf("P16.6: %v is sure, but the node %d, which is safe, has %v", x.agreed, n, log)
		}
	}
}

// step lets one thing happen.
func (x *world) step() {
	x.t.Helper()
	n := x.d.below(len(x.relays))
	switch {
	case x.d.in(x.weather.change):
		x.change()
	case x.relays[n] == nil:
		x.up(n)
	case x.d.in(x.weather.crash):
		x.crash(n)
	case x.d.in(6):
		x.tick(n)
	case x.d.in(6):
		x.propose(n)
	case len(x.net) > 0:
		x.deliver(x.d.below(len(x.net)))
	}
	for len(x.net) > 60 {
		x.remove(x.d.below(len(x.net)))
	}
}

func (x *world) up(n int) {
	x.t.Helper()
	x.relays[n] = x.load(n)
	x.look(n)
	if x.d.in(3) {
		x.disks[n] = x.relays[n].Save()
		x.wantLasts(n)
	}
}

func (x *world) tick(n int) {
	x.t.Helper()
	r := x.relays[n]
	x.settle(n, nil, r.Tick())
	if r.Active() {
		x.net = append(x.net, letter{kind: isActive, v: r.View()})
	}
}

func (x *world) propose(n int) {
	x.t.Helper()
	r := x.relays[n]
	active := r.Active()
	at, recs, outs, e := r.Propose(fmt.Append(nil, x.cmds))
	if active != (e == api.OK) || active && at != r.Len() || !active && e != api.ErrState {
		x.t.Fatalf("Propose: %d, error %d, active: %t", at, e, active)
	}
	x.cmds++
	x.settle(n, recs, outs)
}

// change lets the control pick a view of a safe primary.
func (x *world) change() {
	x.t.Helper()
	safe := x.control.Safe()
	n := safe[x.d.below(len(safe))]
	if _, e := x.control.Change(n, x.someNodes(n)); e != api.OK {
		x.t.Fatalf("Change: error %d", e)
	}
	x.tellView()
}

func (x *world) remove(i int) { x.net = slices.Delete(x.net, i, i+1) }

// deliver lets a letter arrive; it may be lost, or be there once more.
func (x *world) deliver(i int) {
	x.t.Helper()
	l := x.net[i]
	if !x.d.in(x.weather.twice) {
		x.remove(i)
	}
	if x.d.in(x.weather.lost) {
		return
	}
	r := x.relays[l.to]
	switch {
	case l.kind == isActive:
		if e := x.control.Active(l.v.Epoch); e != api.OK {
			x.t.Fatalf("Active: error %d", e)
		}
	case r == nil:
	case l.kind == leads:
		recs, e := r.Lead(l.v)
		if e != api.OK {
			x.t.Fatalf("Lead: error %d", e)
		}
		x.settle(l.to, recs, nil)
	case l.kind == chat:
		m, e := relay.Decode(l.body)
		if e != api.OK {
			x.t.Fatalf("Decode: error %d", e)
		}
		recs, outs := r.Take(l.from, m)
		x.settle(l.to, recs, outs)
	}
}

// calm lets all go well: what a primary then has is sure with all members.
func (x *world) calm() {
	x.t.Helper()
	x.weather = weather{1 << 40, 1 << 40, 1 << 40, 1 << 40, 1 << 40}
	x.net = nil
	for n, r := range x.relays {
		if r == nil {
			x.up(n)
		}
	}
	x.change()
	v := x.control.Now()
	r := x.relays[v.Primary]
	for round := range 40 {
		if round == 3 {
			for range 40 {
				x.propose(v.Primary)
			}
			x.net = nil
		}
		x.tick(v.Primary)
		for len(x.net) > 0 {
			x.deliver(0)
		}
	}
	if !r.Active() || r.Sure() != r.Len() || !slices.Equal(x.control.Safe(), v.Members) {
		x.t.Fatalf("%v: active: %t, %d of %d are sure, safe: %v", v, r.Active(), r.Sure(), r.Len(), x.control.Safe())
	}
	for _, n := range v.Members {
		if m := x.relays[n]; m.Sure() != r.Len() || !slices.EqualFunc(m.Log(), r.Log(), same) {
			x.t.Fatalf("%v: the node %d has %d sure, of %v, but the primary %v", v, n, m.Sure(), m.Log(), r.Log())
		}
	}
}

func TestP16_5And6Agreed(t *testing.T) {
	var views, sure, crashes, torn, late int
	for seed := range 240 {
		d := dice(seed)
		w := weather{lost: 2 + d.below(30), twice: 2 + d.below(9), crash: 10 + d.below(190), torn: 2 + d.below(60), change: 20 + d.below(200)}
		x := newWorld(t, &d, 2+seed%4, w)
		for range 1500 {
			x.step()
			x.wantSafe()
		}
		x.calm()
		x.wantSafe()
		views += len(x.began)
		sure += len(x.agreed)
		crashes += x.counts.crashes
		torn += x.counts.torn
		late += x.counts.late
	}
	// What never happens isn't held.
	if views < 1000 || sure < 3000 || crashes < 3000 || torn < 500 || late < 3 {
		t.Errorf("%d views were active, %d entries sure, %d crashes, %d within records, %d entries sure late", views, sure, crashes, torn, late)
	}
}

// pass lets messages arrive at relays by their numbers; these are the answers.
func pass(from int, l []relay.Out, to ...*relay.Relay) map[int][]relay.Out {
	answers := map[int][]relay.Out{}
	for _, o := range l {
		_, answers[o.To] = to[o.To].Take(from, o.Msg)
	}
	return answers
}

// An old primary that doesn't know of the next view can't commit any more;
// what one of its members acked stands in the next epoch.
func TestP16_6OldPrimary(t *testing.T) {
	v, w := viewOf(1, 0, 0, 1, 2), viewOf(2, 1, 1, 2)
	a, b, c := led(t, 0, v), led(t, 1, v), led(t, 2, v)
	for from, l := range pass(0, a.Tick(), a, b, c) {
		pass(from, l, a, b, c)
	}
	propose(t, a, "x", 1, 0)
	late := pass(0, a.Tick(), a, b, c)
	pass(1, late[1], a, b, c)
	_, _, ships, _ := a.Propose([]byte("y"))
	later := pass(0, ships[:1], a, b, c)
	lead(t, b, w)
	for from, l := range pass(1, b.Tick(), a, b, c) {
		pass(from, l, a, b, c)
	}
	wantState(t, b, w, true, 2, of(1, "x", "y"))
	propose(t, b, "z", 3, 2)

	// Of what the members told of the first epoch the old one counts its own.
	pass(2, late[2], a, b, c)
	pass(1, later[1], a, b, c)
	for range 3 {
		for from, l := range pass(0, a.Tick(), a, b, c) {
			pass(from, l, a, b, c)
		}
	}
	wantState(t, a, v, true, 1, of(1, "x", "y"))
	wantState(t, c, w, false, 0, of(1, "x", "y"))
	propose(t, a, "never", 3, 1)
	for from, l := range pass(1, b.Tick(), a, b, c) {
		pass(from, l, a, b, c)
	}
	wantState(t, a, v, true, 1, of(1, "x", "y", "never"))
	wantState(t, b, w, true, 3, append(of(1, "x", "y"), of(2, "z")...))
	pass(1, b.Tick(), a, b, c)
	wantState(t, c, w, false, 3, append(of(1, "x", "y"), of(2, "z")...))
}
