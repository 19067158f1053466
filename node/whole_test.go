package node_test

import (
	"bytes"
	"fmt"
	"slices"
	"testing"

	"slackwater/api"
	"slackwater/ask"
	"slackwater/cell"
	"slackwater/disk"
	"slackwater/label"
	"slackwater/node"
	"slackwater/post"
	"slackwater/relay"
	"slackwater/stamp"
	"slackwater/view"
)

// Tests of P17.5, and of all promises together: nodes whose messages are lost,
// come late, in any order and more than once, whose clocks differ, whose power
// goes at any step of their disks, and whose views controls pick.

// weather says how often things go wrong: once in so many times.
type weather struct{ lost, twice, crash, fuse, change int }

// asked is a query that was answered.
type asked struct {
	s    int
	q    ask.Query
	at   api.Stamp
	told string
}

// place is a node's part of a shard.
type place struct{ n, s int }

// acks is up to where a node told that it has a log.
type acks struct{ epoch, index int }

// world is some nodes, what is between them, and what was told.
type world struct {
	t        *testing.T
	d        *dice
	c        node.Config
	w        weather
	nodes    []*node.Node // nil of one that doesn't run
	disks    []*disk.Disk
	skew     []int64
	now      int64
	net      []post.Msg
	controls []*view.Control

	given  map[string][]api.Write // by tokens
	told   map[string]cell.Reply  // of batches that are decided
	asked  []asked
	agreed [][][]byte // by shards: what was ever sure

	logs   []map[int]map[int][]byte // by shards, epochs and places: what primaries told of their logs
	acked  map[place]acks
	led    map[place]int // the last epoch in which a node told of its log
	offers map[place]int // the last epoch of which a node got an Offer
	counts struct{ crashes, fused, bases, answered, late int }
}

func newWorld(t *testing.T, d *dice, c node.Config, w weather) *world {
	x := &world{t: t, d: d, c: c, w: w, now: 10, nodes: make([]*node.Node, c.Nodes), given: map[string][]api.Write{}, told: map[string]cell.Reply{}, agreed: make([][][]byte, c.Shards), acked: map[place]acks{}, led: map[place]int{}, offers: map[place]int{}}
	for n := range c.Nodes {
		x.disks = append(x.disks, newDisk(t, 1<<24))
		x.skew = append(x.skew, int64(d.below(40)))
		x.start(n)
	}
	for s := range c.Shards {
		v, _ := view.New(x.someNodes(s % c.Nodes))
		x.controls = append(x.controls, v)
		x.logs = append(x.logs, map[int]map[int][]byte{})
		x.announce(s)
	}
	return x
}

// someNodes are a node and others.
func (x *world) someNodes(with int) []int {
	var l []int
	for n := range x.nodes {
		if n == with || !x.d.in(3) {
			l = append(l, n)
		}
	}
	return l
}

func (x *world) announce(s int) {
	for n := range x.nodes {
		x.net = append(x.net, post.Msg{From: control, To: n, Body: node.Seal(node.Letter{Kind: leads, Shard: s, View: x.controls[s].Now()})})
	}
}

// start makes a node on its disk, of which the power may go then, too.
func (x *world) start(n int) {
	x.t.Helper()
	if x.nodes[n] != nil {
		return
	}
	x.wantLasts(n)
	if x.d.in(4) {
		x.disks[n].Fuse(x.d.below(4))
	}
	one, e := node.New(n, x.c, x.disks[n])
	switch {
	case e == api.ErrDown:
		x.crash(n)
	case e != api.OK:
		x.t.Fatalf("New(%d): error %d", n, e)
	default:
		x.nodes[n] = one
		x.look(n)
	}
}

func (x *world) crash(n int) {
	x.t.Helper()
	x.nodes[n] = nil
	var keep []int
	for range 3 {
		keep = append(keep, oneOf(x.d, 0, 0, x.d.below(60), 1<<26))
	}
	if e := x.disks[n].Crash(keep); e != api.OK {
		x.t.Fatalf("Crash: error %d", e)
	}
	x.counts.crashes++
}

// wantLasts holds that a disk has all that its node acked, and told of.
func (x *world) wantLasts(n int) {
	x.t.Helper()
	if x.d.in(2) || x.disks[n].Used() == 0 {
		return
	}
	for s, l := range logs(x.t, n, x.c, x.disks[n]) {
		p := place{n, s}
		if a := x.acked[p]; x.offers[p] <= a.epoch {
			x.wantHas(p, l, a)
		}
		if led := x.led[p]; x.offers[p] <= led {
			x.wantHas(p, l, acks{led, len(l)})
			for i := range x.logs[s][led] {
				if i >= len(l) {
					x.t.Fatalf("P17.5: %v, epoch %d: %d entries are there, but one at %d was told", p, led, len(l), i)
				}
			}
		}
	}
}

// wantHas holds that a log has so many entries, as they were told.
func (x *world) wantHas(p place, l [][]byte, a acks) {
	x.t.Helper()
	if len(l) < a.index {
		x.t.Fatalf("P17.5: %v, epoch %d: %d entries were acked, %d are there", p, a.epoch, a.index, len(l))
	}
	for i, cmd := range l[:a.index] {
		if told, ok := x.logs[p.s][a.epoch][i]; ok && !bytes.Equal(told, cmd) {
			x.t.Fatalf("P17.5: %v, epoch %d: the entry %d is %x, but %x was told", p, a.epoch, i, cmd, told)
		}
	}
}

// send lets what a call let set out be on its way; a node that is dead crashes.
func (x *world) send(n int, outs []post.Msg, e api.Errno) {
	x.t.Helper()
	if e == api.ErrDown {
		if len(outs) > 0 {
			x.t.Fatalf("%v beside an error", outs)
		}
		x.counts.fused++
		x.crash(n)
		return
	}
	for _, m := range outs {
		if l := read(x.t, []post.Msg{m})[0]; l.l.Kind == chat {
			x.chats(n, l.l.Shard, l.l.Chat)
		}
		x.net = append(x.net, m)
	}
	x.look(n)
}

// chats notes what a node tells of its log.
func (x *world) chats(n, s int, m relay.Msg) {
	x.t.Helper()
	p := place{n, s}
	if x.logs[s][m.Epoch] == nil {
		x.logs[s][m.Epoch] = map[int][]byte{}
	}
	first := 0
	switch m.Kind {
	case relay.Ack:
		x.acked[p] = acks{m.Epoch, m.Index}
		return
	case relay.Ship:
		first = m.Index - 1
	}
	x.led[p] = m.Epoch
	for i, a := range m.Log {
		x.entry(x.logs[s][m.Epoch], first+i, a.Cmd)
	}
}

// entry notes what stands at a place of a log, where nothing else may stand.
func (x *world) entry(l map[int][]byte, i int, cmd []byte) {
	x.t.Helper()
	if was, ok := l[i]; ok && !bytes.Equal(was, cmd) {
		x.t.Fatalf("P17.5: the entry %d is told as %x, and was as %x", i, cmd, was)
	}
	l[i] = cmd
}

// look holds that what is sure with a node is what was sure with others.
func (x *world) look(n int) {
	x.t.Helper()
	if x.nodes[n] == nil || !x.d.in(8) {
		return
	}
	for s := range x.c.Shards {
		l := x.nodes[n].Sure(s)
		if a := x.agreed[s]; !begins(l, a) && !begins(a, l) {
			x.t.Fatalf("of the shard %d %d has %x, but sure is %x", s, n, l, a)
		}
		if len(l) > len(x.agreed[s]) {
			x.agreed[s] = l
		}
	}
}

// phys is the reading of a node's clock.
func (x *world) phys(n int) int64 { return x.now + x.skew[n] }

// step lets one thing happen.
func (x *world) step() {
	x.t.Helper()
	n := x.d.below(x.c.Nodes)
	s := x.d.below(x.c.Shards)
	x.now += int64(x.d.below(3))
	switch {
	case x.d.in(x.w.change):
		x.change(s)
	case x.nodes[n] == nil:
		x.start(n)
	case x.d.in(x.w.crash):
		x.crash(n)
	case x.d.in(x.w.fuse):
		x.disks[n].Fuse(x.d.below(12))
	case x.d.in(9):
		x.submit(fmt.Sprint(x.d.below(20)))
	case x.d.in(20):
		x.order(s)
	case x.d.in(4):
		outs, e := x.nodes[n].Tick(x.phys(n))
		x.send(n, outs, e)
	case x.d.in(5):
		x.ask(n, s)
	case len(x.net) > 0:
		x.deliver(x.d.below(min(len(x.net), 12)))
	}
	for len(x.net) > 80 {
		x.net = slices.Delete(x.net, 0, 1)
	}
}

// change lets a control pick a view of a safe primary.
func (x *world) change(s int) {
	x.t.Helper()
	n := oneOf(x.d, x.controls[s].Safe()...)
	if _, e := x.controls[s].Change(n, x.someNodes(n)); e != api.OK {
		x.t.Fatalf("Change: error %d", e)
	}
	x.announce(s)
}

// call lets a client call whoever leads a shard.
func (x *world) call(s int, m cell.Cmd) {
	to := x.controls[s].Now().Primary
	x.net = append(x.net, post.Msg{From: client, To: to, Body: node.Seal(node.Letter{Kind: call, Shard: s, Cmd: m})})
}

// submit asks for a batch; a token's writes are the same each time.
func (x *world) submit(token string) {
	l, ok := x.given[token]
	if !ok {
		for i := range 1 + x.d.below(5) {
			w := api.Write{Set: []api.Pair{{Name: "a", Value: fmt.Sprint(x.d.below(6))}}, Time: int64(4*i + x.d.below(4)), Kind: oneOf(x.d, api.Sample, api.Sample, api.Note, api.Gone)}
			switch w.Kind {
			case api.Sample:
				w.Num = int64(len(x.given)*10 + i)
			case api.Note:
				w.Text = token
			}
			l = append(l, w)
		}
		x.given[token] = l
	}
	x.call(node.Home(token, x.c.Shards), cell.Cmd{Kind: begin, Token: token, Writes: l})
}

func (x *world) order(s int) {
	wall := max(0, x.now-int64(x.d.below(60)))
	x.call(s, oneOf(x.d,
		cell.Cmd{Kind: cut, At: at(wall, 0, 0)},
		cell.Cmd{Kind: retain, N: int64(x.d.below(6))},
		cell.Cmd{Kind: pin, Id: x.d.below(3), At: at(wall, 0, 0), N: int64(1 + x.d.below(20))}))
}

// ask asks a node about a stamp near what it has closed.
func (x *world) ask(n, s int) {
	from := int64(x.d.below(8))
	q := ask.Query{Op: x.d.below(6), From: from, To: from + int64(x.d.below(20)), Notes: x.d.in(2)}
	if q.Op != ask.Points {
		q.Step = int64(1 + x.d.below(9))
	}
	c := x.nodes[n].State(s).Closed
	c.Wall = max(0, c.Wall-int64(x.d.below(20)))
	c.Tick, c.Mark = oneOf(x.d, c.Tick, 0, 1, maxTick), oneOf(x.d, c.Mark, 0, 1, 2, maxTick)
	if a, e := x.nodes[n].Ask(s, q, c); e == api.OK {
		x.asked = append(x.asked, asked{s, q, c, fmt.Sprint(a)})
	}
}

// deliver lets a message arrive; it may be lost, or be there once more.
func (x *world) deliver(i int) {
	x.t.Helper()
	m := x.net[i]
	if !x.d.in(x.w.twice) {
		x.net = slices.Delete(x.net, i, i+1)
	}
	if x.d.in(x.w.lost) {
		return
	}
	l := read(x.t, []post.Msg{m})[0].l
	switch {
	case m.To == control:
		if e := x.controls[l.Shard].Active(l.Epoch); l.Kind != active || e != api.OK {
			x.t.Fatalf("%+v: error %d", l, e)
		}
	case m.To == client:
		x.hears(l)
	case x.nodes[m.To] != nil:
		if p := (place{m.To, l.Shard}); l.Kind == chat && l.Chat.Kind == relay.Offer {
			x.offers[p] = max(x.offers[p], l.Chat.Epoch)
		}
		outs, e := x.nodes[m.To].Take(m, x.phys(m.To))
		if e == api.ErrOffset {
			x.counts.late++
		} else if e != api.OK && e != api.ErrDown {
			x.t.Fatalf("%+v: error %d", l, e)
		}
		x.send(m.To, outs, e)
	}
}

// hears holds that what a client was told stays.
func (x *world) hears(l node.Letter) {
	x.t.Helper()
	r := l.Reply
	if l.Kind != answer || l.Cmd.Kind != begin || len(l.Cmd.Writes) > 0 || r.Err != api.OK {
		x.t.Fatalf("%+v", l)
	}
	was, ok := x.told[l.Cmd.Token]
	if ok && r.State != open && was != r {
		x.t.Fatalf("%q: %+v, was %+v", l.Cmd.Token, r, was)
	}
	if r.State != open {
		x.told[l.Cmd.Token] = r
	}
}

// round lets all that is on its way arrive, and all nodes tick.
func (x *world) round() {
	x.t.Helper()
	for range len(x.net) {
		x.deliver(0)
	}
	for n := range x.nodes {
		outs, e := x.nodes[n].Tick(x.now)
		x.send(n, outs, e)
	}
	x.now++
}

// calm lets all go well, till nothing is left to do.
func (x *world) calm() {
	x.t.Helper()
	x.w = weather{1 << 40, 1 << 40, 1 << 40, 1 << 40, 1 << 40}
	x.net = nil
	longest := 0
	for n := range x.nodes {
		x.crash(n)
		for x.nodes[n] == nil {
			x.start(n)
		}
		x.disks[n].Fuse(-1)
		x.skew[n] = 0
		for s := range x.c.Shards {
			longest = max(longest, x.nodes[n].State(s).Len)
		}
	}
	for s := range x.c.Shards {
		x.announce(s)
	}
	for range 60 + 2*x.c.Patience + longest {
		if x.round(); x.isQuiet() {
			return
		}
	}
	x.t.Fatalf("it isn't quiet: %+v", x.nodes[0].State(0))
}

// isQuiet says whether each shard's members have its view and its log, and
// nothing is left to be driven.
func (x *world) isQuiet() bool {
	for s, c := range x.controls {
		v := c.Now()
		p := x.nodes[v.Primary].State(s)
		if !p.Active || p.Held > 0 || p.Open > 0 || !slices.Equal(c.Safe(), v.Members) {
			return false
		}
		for _, n := range v.Members {
			if m := x.nodes[n].State(s); m.View.Epoch != v.Epoch || m.Held > 0 || m.Open > 0 {
				return false
			}
		}
	}
	return true
}

// books is all batches that were begun, as the sure entries tell it.
func (x *world) books() []cell.Item {
	var l []cell.Item
	for s, a := range x.agreed {
		c, _ := cell.New(s)
		for _, b := range a {
			if m, e := cell.Decode(b); e == api.OK {
				c.Do(m)
			}
		}
		l = append(l, c.Book()...)
	}
	return l
}

// model is the points of a shard at a stamp, as the batches that are done tell.
func (x *world) model(books []cell.Item, s int, at api.Stamp) []api.Point {
	last := map[string]api.Point{}
	for _, it := range books {
		if it.State != done || stamp.Compare(it.At, at) > 0 {
			continue
		}
		for _, w := range node.Split(it.Writes, x.c.Shards)[s] {
			k := fmt.Sprint(w.Set, w.Time)
			if p, ok := last[k]; !ok || stamp.Compare(p.At, it.At) < 0 {
				last[k] = api.Point{Set: w.Set, Time: w.Time, Kind: w.Kind, Num: w.Num, Text: w.Text, At: it.At}
			}
		}
	}
	var l []api.Point
	for _, p := range last {
		if p.Kind != api.Gone {
			l = append(l, p)
		}
	}
	slices.SortFunc(l, func(a, b api.Point) int {
		if c := label.Compare(a.Set, b.Set); c != 0 {
			return c
		}
		return int(a.Time - b.Time)
	})
	return l
}

// wantWhole holds all that was told against the batches that are done.
func (x *world) wantWhole() {
	x.t.Helper()
	for n := range x.nodes {
		for range 40 {
			x.look(n)
		}
	}
	books := x.books()
	stamps := map[api.Stamp]string{}
	for _, it := range books {
		if fmt.Sprint(it.Writes) != fmt.Sprint(x.given[it.Token]) {
			x.t.Fatalf("%q: %v, but it was given as %v", it.Token, it.Writes, x.given[it.Token])
		}
		if it.State == done {
			if other, ok := stamps[it.At]; ok {
				x.t.Fatalf("%q and %q are done at %v", other, it.Token, it.At)
			}
			stamps[it.At] = it.Token
		}
	}
	for token, r := range x.told {
		i := slices.IndexFunc(books, func(it cell.Item) bool { return it.Token == token })
		if i < 0 || books[i].State != r.State || books[i].At != r.At || books[i].Deed != r.Deed {
			x.t.Fatalf("%q: %+v was told", token, r)
		}
	}
	for _, a := range x.asked {
		want, e := ask.Run(a.q, x.model(books, a.s, a.at))
		if e != api.OK || fmt.Sprint(want) != a.told {
			x.t.Fatalf("of the shard %d %+v at %v was told %s, want %+v", a.s, a.q, a.at, a.told, want)
		}
	}
}

// wantAgain asks again: all nodes answer the same, or tell why not.
func (x *world) wantAgain() {
	x.t.Helper()
	for _, a := range x.asked {
		for n := range x.nodes {
			got, e := x.nodes[n].Ask(a.s, a.q, a.at)
			if e == api.OK && fmt.Sprint(got) != a.told {
				x.t.Fatalf("of the shard %d %+v at %v was told %s, %d tells %+v", a.s, a.q, a.at, a.told, n, got)
			}
			if e == api.OK {
				x.counts.answered++
			}
		}
	}
}

// wantDone holds that a new batch is done, when all goes well.
func (x *world) wantDone() {
	x.t.Helper()
	x.now += 1 << 30
	for range 60 {
		x.submit("new")
		if x.round(); x.told["new"].State == done {
			break
		}
	}
	if x.told["new"].State != done {
		x.t.Fatalf("the new batch: %+v", x.told["new"])
	}
	for range 5 {
		x.round()
	}
	for s, c := range x.controls {
		x.asked = nil
		for _, n := range c.Now().Members {
			x.ask(n, s)
		}
		x.wantAgain()
	}
}

func TestP17_5Whole(t *testing.T) {
	var decided, doneOnes, answers, again, crashes, fused, bases, late int
	for seed := range 100 {
		d := dice(seed)
		c := node.Config{Nodes: 1 + seed%4, Shards: 1 + d.below(3), Offset: int64(oneOf(&d, 10, 3000, 1<<30)), Patience: 5 + d.below(12)}
		x := newWorld(t, &d, c, weather{lost: 4 + d.below(40), twice: 3 + d.below(20), crash: 60 + d.below(400), fuse: 60 + d.below(300), change: 40 + d.below(300)})
		for range 2500 {
			x.step()
		}
		x.calm()
		x.wantWhole()
		x.wantAgain()
		for _, it := range x.books() {
			decided++
			if it.State == done {
				doneOnes++
			}
		}
		answers += len(x.asked)
		x.wantDone()
		x.wantWhole()
		for _, one := range x.disks {
			if base, _ := records(t, one); len(base) > 0 {
				bases++
			}
		}
		again += x.counts.answered
		crashes += x.counts.crashes
		fused += x.counts.fused
		late += x.counts.late
	}
	// What never happens isn't held.
	if decided < 1000 || doneOnes < 600 || answers < 5000 || again < 8000 || crashes < 2000 || fused < 1000 || bases < 50 || late < 500 {
		t.Errorf("%d decided, %d done, %d answers, %d again, %d crashes, %d fused, %d bases, %d late", decided, doneOnes, answers, again, crashes, fused, bases, late)
	}
}
