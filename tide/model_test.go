package tide_test

import (
	"fmt"
	"slices"
	"testing"

	"slackwater/api"
	"slackwater/ask"
	"slackwater/cell"
	"slackwater/disk"
	"slackwater/label"
	"slackwater/node"
	"slackwater/post"
	"slackwater/tide"
	"slackwater/view"
)

// Tests of P18.1 to P18.4 together: a tide is held, step by step, against a
// model that puts nodes, disks and controls together by hand.

type model struct {
	c        node.Config
	disks    []*disk.Disk
	nodes    []*node.Node
	net      []post.Msg
	controls []*view.Control
	fates    map[string]cell.Reply
}

func newModel(c node.Config, room int) *model {
	m := &model{c: c, fates: map[string]cell.Reply{}}
	for n := range c.Nodes {
		d, _ := disk.New(room)
		one, _ := node.New(n, c, d)
		m.disks, m.nodes = append(m.disks, d), append(m.nodes, one)
	}
	for s := range c.Shards {
		members := map[int]bool{}
		for n := s; n < s+3; n++ {
			members[n%c.Nodes] = true
		}
		var l []int
		for n := range c.Nodes {
			if members[n] {
				l = append(l, n)
			}
		}
		v, _ := view.New(l)
		m.controls = append(m.controls, v)
	}
	return m
}

func (m *model) send(outs ...post.Msg) {
	for _, o := range outs {
		if len(m.net) < maxQueue && len(o.Body) <= api.MaxBody {
			m.net = append(m.net, o)
		}
	}
}

func (m *model) deliver(i int, phys int64) api.Errno {
	if i < 0 || i >= len(m.net) {
		return api.ErrArg
	}
	o := m.net[i]
	m.net = slices.Concat(m.net[:i], m.net[i+1:])
	l, _ := node.Open(o.Body)
	switch {
	case o.To == 90:
		return m.controls[l.Shard].Active(l.Epoch)
	case o.To == 91:
		if s := m.fates[l.Cmd.Token].State; l.Cmd.Kind == begin && s < done {
			m.fates[l.Cmd.Token] = l.Reply
		}
		return api.OK
	case m.nodes[o.To] == nil:
		return api.OK
	}
	outs, e := m.nodes[o.To].Take(o, phys)
	m.send(outs...)
	return e
}

func (m *model) announce(s int) api.Errno {
	for n := range m.nodes {
		m.send(post.Msg{From: 90, To: n, Body: node.Seal(node.Letter{Kind: node.Lead, Shard: s, View: m.controls[s].Now()})})
	}
	return api.OK
}

func (m *model) change(s, primary int, members []int) api.Errno {
	for _, n := range members {
		if n >= m.c.Nodes {
			return api.ErrArg
		}
	}
	if _, e := m.controls[s].Change(primary, members); e != api.OK {
		return e
	}
	return m.announce(s)
}

func (m *model) call(s int, c cell.Cmd) api.Errno {
	if len(m.net) >= maxQueue {
		return api.ErrFull
	}
	m.send(post.Msg{From: 91, To: m.controls[s].Now().Primary, Body: node.Seal(node.Letter{Kind: node.Call, Shard: s, Cmd: c})})
	return api.OK
}

func (m *model) ask(n int, q ask.Query, at api.Stamp) (ask.Answer, api.Errno) {
	if m.nodes[n] == nil {
		return ask.Answer{}, api.ErrState
	}
	var all ask.Answer
	for s := range m.c.Shards {
		a, e := m.nodes[n].Ask(s, q, at)
		if e != api.OK {
			return ask.Answer{}, e
		}
		all.Rows, all.Notes = append(all.Rows, a.Rows...), append(all.Notes, a.Notes...)
	}
	slices.SortStableFunc(all.Rows, func(a, b ask.Row) int { return label.Compare(a.Set, b.Set) })
	slices.SortStableFunc(all.Notes, func(a, b api.Point) int { return label.Compare(a.Set, b.Set) })
	return all, api.OK
}

// power does what Crash, Start and Fuse do, or Tick, which all need a node that
// runs, or doesn't.
func (m *model) power(n int, do func(one *node.Node) api.Errno) api.Errno {
	if m.nodes[n] == nil {
		return api.ErrState
	}
	return do(m.nodes[n])
}

func (m *model) tick(n int, phys int64) api.Errno {
	return m.power(n, func(one *node.Node) api.Errno {
		outs, e := one.Tick(phys)
		m.send(outs...)
		return e
	})
}

func (m *model) crash(n int, keep []int) api.Errno {
	return m.power(n, func(*node.Node) api.Errno {
		m.nodes[n] = nil
		return m.disks[n].Crash(keep)
	})
}

func (m *model) start(n int) api.Errno {
	if m.nodes[n] != nil {
		return api.ErrState
	}
	one, e := node.New(n, m.c, m.disks[n])
	m.nodes[n] = one
	return e
}

// both is a tide and its model.
type both struct {
	t *testing.T
	x *tide.Tide
	m *model
}

func (b both) want(what string, got, want api.Errno) api.Errno {
	b.t.Helper()
	if got != want {
		b.t.Fatalf("%s: error %d, want %d", what, got, want)
	}
	if b.x.Len() != len(b.m.net) {
		b.t.Fatalf("%s: %d are on their way, want %d", what, b.x.Len(), len(b.m.net))
	}
	return got
}

// alike holds all that the two tell against each other.
func (b both) alike() {
	b.t.Helper()
	for s, c := range b.m.controls {
		if got, want := fmt.Sprint(b.x.View(s)), fmt.Sprint(c.Now()); got != want {
			b.t.Fatalf("the shard %d has %s, want %s", s, got, want)
		}
		for n, one := range b.m.nodes {
			got := fmt.Sprintf("%v %+v %x", b.x.Up(n), b.x.State(n, s), b.x.Sure(n, s))
			if want := fmt.Sprintf("%v %+v %x", one != nil, one.State(s), one.Sure(s)); got != want {
				b.t.Fatalf("of the shard %d %d has %s, want %s", s, n, got, want)
			}
		}
	}
	for i := range 12 {
		got, ok := b.x.Fate(fmt.Sprint(i))
		if want, known := b.m.fates[fmt.Sprint(i)]; got != want || ok != known {
			b.t.Fatalf("the fate of %d is %+v, %v, want %+v, %v", i, got, ok, want, known)
		}
	}
}

// ask asks both, near the end of what is closed.
func (b both) ask(d *dice, n int) bool {
	b.t.Helper()
	q := ask.Query{From: int64(d.below(4)), To: 4 + int64(d.below(20)), Notes: d.in(2)}
	near := b.x.State(n, d.below(b.m.c.Shards)).Closed
	near.Wall = max(0, near.Wall-int64(d.below(9)))
	got, e := b.x.Ask(n, q, near)
	want, e2 := b.m.ask(n, q, near)
	if e != e2 || fmt.Sprint(got) != fmt.Sprint(want) {
		b.t.Fatalf("%d tells %v, error %d, want %v, error %d", n, got, e, want, e2)
	}
	return e == api.OK && len(want.Rows) > 1
}

// step does one thing with both.
func (b both) step(d *dice, now int64) {
	b.t.Helper()
	x, m := b.x, b.m
	n, s, i := d.below(m.c.Nodes), d.below(m.c.Shards), d.below(len(m.net)+2)-1
	phys := now + oneOf(d, 0, 0, 0, int64(n), 30)
	switch k := d.below(120); {
	case k < 50:
		if i > 6 && !d.in(4) {
			i = d.below(6)
		}
		b.want("Deliver", x.Deliver(i, phys), m.deliver(i, phys))
	case k < 75:
		phys = oneOf(d, phys, phys, phys, phys, -1)
		b.want("Tick", x.Tick(n, phys), m.tick(n, phys))
	case k < 81:
		want := api.ErrArg
		if i >= 0 && i < len(m.net) {
			want, m.net = api.OK, slices.Concat(m.net[:i], m.net[i+1:])
		}
		b.want("Lose", x.Lose(i), want)
	case k < 87:
		want := api.ErrArg
		if i >= 0 && i < len(m.net) {
			want = api.OK
			m.send(m.net[i])
		}
		b.want("Twice", x.Twice(i), want)
	case k < 89:
		keep := []int{d.below(80), oneOf(d, 0, 1<<20)}
		b.want("Crash", x.Crash(n, keep), m.crash(n, keep))
	case k < 95:
		b.want("Start", x.Start(n), m.start(n))
	case k < 97:
		steps := d.below(20)
		b.want("Fuse", x.Fuse(n, steps), m.power(n, func(*node.Node) api.Errno { return m.disks[n].Fuse(steps) }))
	case k < 99:
		b.want("Announce", x.Announce(s), m.announce(s))
	case k < 102:
		var members []int
		for o := range m.c.Nodes + 1 {
			if !d.in(2) && (o < m.c.Nodes || d.in(8)) {
				members = append(members, o)
			}
		}
		b.want("Change", x.Change(s, n, members), m.change(s, n, members))
	case k < 114:
		token := fmt.Sprint(d.below(12))
		l := sample(d.below(m.c.Shards), m.c.Shards, int64(d.below(20)), int64(d.below(2)))
		b.want("Submit", x.Submit(token, l), m.call(node.Home(token, m.c.Shards), cell.Cmd{Kind: begin, Token: token, Writes: l}))
	default:
		c := cell.Cmd{Kind: oneOf(d, cut, retain, pin), At: at(max(0, now-20), 0, 0), N: int64(d.below(3)), Id: d.below(17)}
		b.want("Order", x.Order(s, c), m.call(s, c))
	}
}

func TestP18_4Model(t *testing.T) {
	var answered, active, fates int
	for seed := range 120 {
		d := dice(seed)
		c := node.Config{Nodes: 1 + seed%5, Shards: 1 + d.below(4), Offset: int64(oneOf(&d, 10, 1000)), Patience: 5 + d.below(9)}
		room := oneOf(&d, 1<<24, 1<<24, 3000)
		b := both{t, newTide(t, c, room), newModel(c, room)}
		for s := range c.Shards {
			b.want("Announce", b.x.Announce(s), b.m.announce(s))
		}
		for i := range 1200 {
			b.step(&d, int64(10+i/8))
			if i%40 == 0 {
				b.alike()
			}
			if d.in(5) && b.ask(&d, d.below(c.Nodes)) {
				answered++
			}
		}
		b.alike()
		for s := range c.Shards {
			for n := range c.Nodes {
				if b.x.State(n, s).Active {
					active++
				}
			}
		}
		fates += len(b.m.fates)
	}
	// What never happens isn't held.
	if answered < 300 || active < 30 || fates < 200 {
		t.Errorf("%d answered with more than one row, %d active, %d fates", answered, active, fates)
	}
}
