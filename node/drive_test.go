package node_test

import (
	"fmt"
	"math"
	"reflect"
	"slices"
	"testing"

	"slackwater/api"
	"slackwater/ask"
	"slackwater/cell"
	"slackwater/node"
	"slackwater/relay"
)

// Tests of P17.3: what a node does by itself, and how batches are driven.

// closedAt are the stamps at which a node closed a shard, as far as is sure.
func closedAt(t *testing.T, n *node.Node, s int) []api.Stamp {
	t.Helper()
	var l []api.Stamp
	for _, m := range ofKind(cmds(t, n, s), closes) {
		l = append(l, m.At)
	}
	return l
}

func TestP17_3Tick(t *testing.T) {
	n := lone(t, 2)
	activeOf := func(s, epoch int) sent { return sent{0, control, node.Letter{Kind: active, Shard: s, Epoch: epoch}} }
	want(t, clicks(t, n, 5), activeOf(0, 1), activeOf(1, 1))
	want(t, clicks(t, n, 5), activeOf(0, 1), activeOf(1, 1))
	lead(t, n, 0, viewOf(7, 0, 0))
	want(t, clicks(t, n, 3), activeOf(0, 7), activeOf(1, 1))
	for s := range 2 {
		l := cmds(t, n, s)
		var kinds []int
		for _, m := range l {
			kinds = append(kinds, m.Kind)
			if only := (cell.Cmd{Kind: m.Kind, At: m.At}); !reflect.DeepEqual(m, only) {
				t.Errorf("%+v", m)
			}
		}
		if !slices.Equal(kinds, []int{tick, closes, tick, closes, tick, closes}) {
			t.Errorf("%d: %v", s, kinds)
		}
		if l := closedAt(t, n, s); !slices.Equal(l, []api.Stamp{at(5, 0, 0), at(5, 1, 0), at(5, 2, 0)}) {
			t.Errorf("%d: %v", s, l)
		}
	}
}

// Who doesn't lead has nothing to tell, but gets on with its clock.
func TestP17_3TickIdle(t *testing.T) {
	n := make1(t, 1, conf(2, 2))
	want(t, clicks(t, n, 5))
	lead(t, n, 1, viewOf(1, 0, 0, 1))
	want(t, clicks(t, n, 500))
	lead(t, n, 1, viewOf(2, 1, 0, 1))
	for range 2 {
		want(t, clicks(t, n, 5), sent{1, 0, node.Letter{Kind: chat, Shard: 1, Chat: relay.Msg{Kind: relay.Offer, Epoch: 2, View: viewOf(2, 1, 0, 1)}}})
	}
	if s := n.State(1); s.Len != 0 || s.Active {
		t.Errorf("%+v", s)
	}
	ack(t, n, 0, 1, 2, 0)
	clicks(t, n, 5)
	ack(t, n, 0, 1, 2, 2)
	if l := closedAt(t, n, 1); !slices.Equal(l, []api.Stamp{at(500, 3, 1)}) {
		t.Errorf("%v", l)
	}
}

// The bound is raised by 1000 above the reading and the last stamp, as soon as
// it is in the way; it lasts. The stamps of a node that is made anew tell it.
func TestP17_3TickBound(t *testing.T) {
	for _, x := range []struct {
		reads []int64
		want  api.Stamp
	}{
		{nil, at(1, 0, 0)},
		{[]int64{0}, at(1001, 0, 0)},
		{[]int64{5}, at(1006, 0, 0)},
		{[]int64{5, 1005}, at(1006, 0, 0)},
		{[]int64{5, 1006}, at(2007, 0, 0)},
		{[]int64{5, 1005, 9, 7000, 6999}, at(8001, 0, 0)},
		{[]int64{maxWall - 1001}, at(maxWall, 0, 0)},
		{[]int64{maxWall - 2000}, at(maxWall-999, 0, 0)},
	} {
		c, d := conf(1, 1), newDisk(t, 1<<20)
		n := load(t, 0, c, d)
		for _, phys := range x.reads {
			clicks(t, n, phys)
		}
		d.Crash(nil)
		n = load(t, 0, c, d)
		lead(t, n, 0, viewOf(1, 0, 0))
		clicks(t, n, 0)
		if l := closedAt(t, n, 0); len(l) != 1 || l[0] != x.want {
			t.Errorf("%v: %v, want %v", x.reads, l, x.want)
		}
	}
}

// Behind a restart the last stamp is the bound's: the new one is 1000 above it.
func TestP17_3TickBoundAgain(t *testing.T) {
	c, d := conf(1, 1), newDisk(t, 1<<20)
	for i, wall := range []int64{5, 1006, 2006, 3006, 4006} {
		n := load(t, 0, c, d)
		lead(t, n, 0, viewOf(i+1, 0, 0))
		clicks(t, n, 5)
		if l := closedAt(t, n, 0); l[len(l)-1] != at(wall, 0, 0) {
			t.Errorf("%d: %v, want %d", i, l, wall)
		}
	}
}

// Where there is no stamp its error is answered beside the messages: nothing
// is closed, and no batch driven.
func TestP17_3TickErrors(t *testing.T) {
	batch := []api.Write{{Time: 2, Kind: api.Sample, Num: 3}}
	for _, x := range []struct {
		ahead, phys int64
		want        api.Errno
	}{{5, -1, api.ErrArg}, {5, maxWall + 1, api.ErrArg}, {5, math.MinInt64, api.ErrArg}, {5, math.MaxInt64, api.ErrArg}, {maxWall, -1, api.ErrArg}} {
		n := lone(t, 1)
		clicks(t, n, x.ahead)
		called(t, n, client, 0, cell.Cmd{Kind: begin, Token: "t", Writes: batch})
		for range 5 {
			was := len(n.Sure(0))
			outs, e := n.Tick(x.phys)
			want(t, read(t, outs), sent{0, control, node.Letter{Kind: active, Epoch: 1}})
			if l := cmds(t, n, 0)[was:]; e != x.want || len(l) != 1 || l[0].Kind != tick {
				t.Errorf("Tick(%d): error %d, %+v", x.phys, e, l)
			}
		}
		if s := n.State(0); s.Held != 0 || s.Open != 1 {
			t.Errorf("%+v", s)
		}
	}
}

// Behind the last of all stamps there is none.
func TestP17_3TickOver(t *testing.T) {
	c, d := conf(1, 1), newDisk(t, 1<<20)
	n := load(t, 0, c, d)
	lead(t, n, 0, viewOf(1, 0, 0))
	clicks(t, n, maxWall)
	clicks(t, n, maxWall)
	if l := closedAt(t, n, 0); !slices.Equal(l, []api.Stamp{at(maxWall, 0, 0), at(maxWall, 1, 0)}) {
		t.Errorf("%v", l)
	}
	n = load(t, 0, c, d)
	for _, phys := range []int64{maxWall, 5, 0} {
		outs, e := n.Tick(phys)
		want(t, read(t, outs), sent{0, control, node.Letter{Kind: active, Epoch: 1}})
		if e != api.ErrOver {
			t.Errorf("Tick(%d): error %d", phys, e)
		}
	}
	if outs, e := n.Tick(-1); e != api.ErrArg || len(outs) != 1 {
		t.Errorf("%v, error %d", outs, e)
	}
	if l := cmds(t, n, 0); len(ofKind(l, closes)) != 2 || len(l) != 8 {
		t.Errorf("%+v", l)
	}
}

// As long as fewer than 8 entries aren't applied, there are more; a Tick that
// waits is enough.
func TestP17_3TickWaits(t *testing.T) {
	n := held(t)
	want := []int{2, 3, 4, 5, 6, 7, 8, 8, 8}
	for i, l := range want {
		clicks(t, n, int64(10+i))
		if s := n.State(0); s.Len != l || s.Sure != 0 {
			t.Fatalf("%d: %+v, want %d", i, s, l)
		}
	}
	ack(t, n, 1, 0, 1, 1) // 7 aren't applied: a Tick and a Close
	clicks(t, n, 30)
	if s := n.State(0); s.Len != 10 || s.Sure != 1 {
		t.Fatalf("%+v", s)
	}
	ack(t, n, 1, 0, 1, 2)
	clicks(t, n, 31)
	if s := n.State(0); s.Len != 10 {
		t.Fatalf("%+v", s)
	}
	ack(t, n, 1, 0, 1, 10)
	clicks(t, n, 32)
	if s := n.State(0); s.Len != 12 || s.Sure != 10 {
		t.Fatalf("%+v", s)
	}
	var kinds []int
	for _, m := range cmds(t, n, 0) {
		kinds = append(kinds, m.Kind)
	}
	if !slices.Equal(kinds, []int{tick, closes, closes, closes, closes, closes, closes, closes, tick, closes}) {
		t.Errorf("%v", kinds)
	}
	if l := closedAt(t, n, 0); l[0] != at(10, 0, 0) || l[6] != at(16, 0, 0) || l[7] != at(30, 0, 0) {
		t.Errorf("%v", l)
	}
}

// crossed is a node that leads the shard 0 of two alone; the shard 1 is led by
// the node 2, as far as it knows. A batch of both shards is begun.
func crossed(t *testing.T) (*node.Node, []api.Write) {
	t.Helper()
	n := make1(t, 0, conf(3, 2))
	lead(t, n, 0, viewOf(1, 0, 0))
	lead(t, n, 1, viewOf(4, 2, 1, 2))
	batch := []api.Write{sample(1, 2, 3), sample(0, 2, 4), sample(1, 3, 5)}
	enters(t, n, client, 0, cell.Cmd{Kind: begin, Token: "t", Writes: batch})
	return n, batch
}

// calls are the calls among what a Tick of a shard that is active lets set out.
func calls(t *testing.T, n *node.Node, phys int64) []sent { return of(call, clicks(t, n, phys)) }

// vote tells a node what a shard answers to a Prepare, or a Resolve.
func vote(t *testing.T, n *node.Node, kind, s int, deed uint32, r cell.Reply) {
	t.Helper()
	want(t, take(t, n, 2, node.Letter{Kind: answer, Shard: s, Cmd: cell.Cmd{Kind: kind, Deed: deed}, Reply: r}, 0))
}

// asksFor is a call of Prepare to the node 2, of the batch of crossed.
func asksFor(batch []api.Write, s api.Stamp) sent {
	return sent{0, 2, node.Letter{Kind: call, Shard: 1, Cmd: cell.Cmd{Kind: prepare, Deed: 1, At: s, Writes: []api.Write{batch[0], batch[2]}}}}
}

// tells is a call of Resolve to the node 2.
func tells(yes bool, s api.Stamp) sent {
	return sent{0, 2, node.Letter{Kind: call, Shard: 1, Cmd: cell.Cmd{Kind: resolve, Deed: 1, Yes: yes, At: s}}}
}

// fateOf is how the batch of a token stands.
func fateOf(t *testing.T, n *node.Node, batch []api.Write) cell.Reply {
	t.Helper()
	outs := called(t, n, client, 0, cell.Cmd{Kind: begin, Token: "t", Writes: batch})
	if len(outs) != 1 || outs[0].l.Kind != answer {
		t.Fatalf("%v", outs)
	}
	return outs[0].l.Reply
}

// All votes are there: it is done at the greatest of their stamps, and all
// shards are told so, till they answer.
func TestP17_3DriveDone(t *testing.T) {
	n, batch := crossed(t)
	want(t, calls(t, n, 10), asksFor(batch, at(10, 0, 0)))
	// Its own part is held behind what was closed.
	if s := n.State(0); s.Held != 1 || s.Open != 1 {
		t.Fatalf("%+v", s)
	}
	want(t, calls(t, n, 11), asksFor(batch, at(11, 0, 0)))
	vote(t, n, prepare, 1, 1, cell.Reply{Deed: 1, State: open, At: at(30, 7, 1)})
	if r := fateOf(t, n, batch); r.State != open {
		t.Fatalf("%+v", r)
	}
	// It may be told at once that it is decided, or at the next Tick.
	first := calls(t, n, 12)
	if len(first) > 0 {
		want(t, first, tells(true, at(30, 7, 1)))
	}
	if r := fateOf(t, n, batch); r != (cell.Reply{Deed: 1, State: done, At: at(30, 7, 1)}) {
		t.Fatalf("%+v", r)
	}
	for range 7 {
		want(t, calls(t, n, 13), tells(true, at(30, 7, 1)))
	}
	if s := n.State(0); s.Held != 0 || s.Open != 0 {
		t.Fatalf("%+v", s)
	}
	vote(t, n, resolve, 1, 1, cell.Reply{Deed: 1, State: done, At: at(30, 7, 1)})
	want(t, calls(t, n, 14))
	want(t, calls(t, n, 40))
	if l := ofKind(cmds(t, n, 0), decide, resolve, prepare, begin); len(l) != 4 {
		t.Errorf("%+v", l)
	}
	// What was held is laid down: at that stamp, and not ahead of it.
	for s, num := range map[api.Stamp]int{at(30, 7, 0): 0, at(30, 7, 1): 1} {
		if a, e := n.Ask(0, ask.Query{To: 9}, s); e != api.OK || len(a.Rows) != num {
			t.Errorf("%v: %+v, error %d", s, a, e)
		}
	}
}

// The greatest stamp may be the own one; then the others' parts are done at it.
func TestP17_3DriveGreatest(t *testing.T) {
	n, batch := crossed(t)
	vote(t, n, prepare, 1, 1, cell.Reply{Deed: 1, State: open, At: at(3, 7, 1)})
	for range 3 {
		for _, x := range calls(t, n, 10) {
			want(t, []sent{x}, tells(true, at(10, 1, 1)))
		}
	}
	if r := fateOf(t, n, batch); r != (cell.Reply{Deed: 1, State: done, At: at(10, 1, 1)}) {
		t.Errorf("%+v", r)
	}
	want(t, calls(t, n, 12), tells(true, at(10, 1, 1)))
}

// A vote is asked for as long as there is none, from whoever leads the shard.
func TestP17_3DrivePrimary(t *testing.T) {
	n, batch := crossed(t)
	want(t, calls(t, n, 10), asksFor(batch, at(10, 0, 0)))
	lead(t, n, 1, viewOf(5, 1, 0, 1))
	to1 := asksFor(batch, at(11, 0, 0))
	to1.to = 1
	want(t, calls(t, n, 11), to1)
	// As soon as it leads the shard itself it asks itself, once that is active.
	lead(t, n, 1, viewOf(6, 0, 0, 1))
	want(t, calls(t, n, 12))
	if s := n.State(1); s.Len != 0 || s.Active {
		t.Fatalf("%+v", s)
	}
	ack(t, n, 1, 1, 6, 0)
	want(t, calls(t, n, 12))
	if s := n.State(0); s.Open != 0 {
		t.Fatalf("%+v: it should be dropped by now", s)
	}
}

// A batch of two shards that the node leads both is done without a message.
func TestP17_3DriveOwn(t *testing.T) {
	n := lone(t, 2)
	m := cell.Cmd{Kind: begin, Token: "t", Writes: []api.Write{sample(1, 2, 3), sample(0, 2, 4)}}
	enters(t, n, client, 1, m)
	for phys := range int64(4) {
		want(t, calls(t, n, 10+phys))
	}
	outs := called(t, n, client, 1, m)
	if r := outs[0].l.Reply; r.State != done || r.Deed != 2 || r.At.Mark != 2 {
		t.Fatalf("%+v", r)
	}
	for s := range 2 {
		if x := n.State(s); x.Held != 0 || x.Open != 0 {
			t.Errorf("%+v", x)
		}
		if l := ofKind(cmds(t, n, s), prepare); len(l) != 1 || !reflect.DeepEqual(l[0].Writes, node.Split(m.Writes, 2)[s]) {
			t.Errorf("%+v", l)
		}
	}
}

// Without all votes it is dropped when it is driven more often than Patience
// says, and not ahead of that.
func TestP17_3DrivePatience(t *testing.T) {
	for _, patience := range []int{1, 2, 7} {
		c := conf(3, 2)
		c.Patience = patience
		n := make1(t, 0, c)
		lead(t, n, 0, viewOf(1, 0, 0))
		lead(t, n, 1, viewOf(4, 2, 1, 2))
		batch := []api.Write{sample(1, 2, 3), sample(0, 2, 4), sample(1, 3, 5)}
		enters(t, n, client, 0, cell.Cmd{Kind: begin, Token: "t", Writes: batch})
		for i := range patience {
			want(t, calls(t, n, int64(10+i)), asksFor(batch, at(int64(10+i), 0, 0)))
			if r := fateOf(t, n, batch); r.State != open {
				t.Fatalf("%d of %d: %+v", i, patience, r)
			}
		}
		first := calls(t, n, 50)
		if r := fateOf(t, n, batch); r != (cell.Reply{Deed: 1, State: dropped}) {
			t.Fatalf("behind %d: %+v", patience, r)
		}
		want(t, first[:1], asksFor(batch, at(50, 0, 0)))
		if len(first) > 1 {
			want(t, first[1:], tells(false, at(0, 0, 0)))
		}
		for range 3 {
			want(t, calls(t, n, 51), tells(false, at(0, 0, 0)))
		}
		// A vote that comes now is too late.
		vote(t, n, prepare, 1, 1, cell.Reply{Deed: 1, State: open, At: at(30, 7, 1)})
		want(t, calls(t, n, 52), tells(false, at(0, 0, 0)))
		vote(t, n, resolve, 1, 1, cell.Reply{Deed: 1, State: dropped})
		want(t, calls(t, n, 53))
		if s := n.State(0); s.Held != 0 {
			t.Errorf("%+v", s)
		}
	}
}

// The last time a batch is driven with patience its votes may still be there.
func TestP17_3DrivePatienceEnds(t *testing.T) {
	n, batch := crossed(t)
	for range 3 {
		calls(t, n, 10)
	}
	vote(t, n, prepare, 1, 1, cell.Reply{Deed: 1, State: open, At: at(30, 7, 1)})
	calls(t, n, 10)
	if r := fateOf(t, n, batch); r.State != done {
		t.Errorf("%+v", r)
	}
}

// A vote that is an error, or isn't open, drops the batch at once.
func TestP17_3DriveRefused(t *testing.T) {
	for _, r := range []cell.Reply{{Err: api.ErrFull, Deed: 1}, {Err: api.ErrArg, Deed: 1, State: open, At: at(9, 0, 1)}, {Deed: 1, State: dropped}, {Deed: 1, State: done, At: at(9, 0, 1)}, {Deed: 1}, {Deed: 1, State: 7}} {
		n, batch := crossed(t)
		vote(t, n, prepare, 1, 1, r)
		calls(t, n, 10)
		if is := fateOf(t, n, batch); is != (cell.Reply{Deed: 1, State: dropped}) {
			t.Errorf("%+v: %+v", r, is)
		}
		want(t, calls(t, n, 11), tells(false, at(0, 0, 0)))
	}
}

// Its own part is refused: the batch is dropped.
func TestP17_3DriveRefusedHere(t *testing.T) {
	n := lone(t, 1)
	called(t, n, 0, 0, cell.Cmd{Kind: prepare, Deed: 1}) // without writes
	m := cell.Cmd{Kind: begin, Token: "t", Writes: batchOf(1)}
	enters(t, n, client, 0, m)
	clicks(t, n, 10)
	asIs(t, n, client, 0, m, answers(client, 0, m, cell.Reply{Deed: 1, State: dropped}))
}

// Votes are those of the batch's own shards, deeds and of Prepare.
func TestP17_3DriveOtherVotes(t *testing.T) {
	n, batch := crossed(t)
	good := cell.Reply{Deed: 1, State: open, At: at(30, 7, 1)}
	vote(t, n, prepare, 1, 5, good)
	for _, kind := range []int{begin, decide, closes, tick, cut, 0, 99} {
		vote(t, n, kind, 1, 1, good)
	}
	for i := range int64(2) {
		want(t, calls(t, n, 10+i), asksFor(batch, at(10+i, 0, 0)))
	}
	if r := fateOf(t, n, batch); r.State != open {
		t.Errorf("%+v", r)
	}
	// Who has answered to a Resolve is told nothing, however it came.
	vote(t, n, resolve, 1, 1, good)
	vote(t, n, prepare, 1, 1, cell.Reply{Err: api.ErrFull})
	for i := range int64(3) {
		want(t, calls(t, n, 20+i))
	}
	if r := fateOf(t, n, batch); r.State != dropped {
		t.Errorf("%+v", r)
	}
}

// A shard without a view can't be asked; the batch is dropped when patience
// ends, and that shard is told as soon as there is one.
func TestP17_3DriveNoView(t *testing.T) {
	for id := range 2 {
		n := make1(t, id, conf(3, 2))
		lead(t, n, 0, viewOf(1, id, id))
		batch := []api.Write{sample(1, 2, 3), sample(0, 2, 4), sample(1, 3, 5)}
		enters(t, n, client, 0, cell.Cmd{Kind: begin, Token: "t", Writes: batch})
		for i := range 8 {
			want(t, calls(t, n, 10))
			if r := fateOf(t, n, batch); (r.State == open) != (i < 3) {
				t.Fatalf("%d: %+v", i, r)
			}
		}
		lead(t, n, 1, viewOf(4, 2, 1, 2))
		resolves := tells(false, at(0, 0, 0))
		resolves.from = id
		want(t, calls(t, n, 11), resolves)
	}
}

// Patience ended, but that isn't sure so far: votes that come then are too late.
func TestP17_3DriveUnsureDrop(t *testing.T) {
	n := make1(t, 0, conf(3, 2))
	lead(t, n, 0, viewOf(1, 0, 0, 1))
	lead(t, n, 1, viewOf(4, 2, 1, 2))
	ack(t, n, 1, 0, 1, 0)
	called(t, n, client, 0, cell.Cmd{Kind: begin, Token: "t", Writes: []api.Write{sample(1, 2, 3)}})
	ack(t, n, 1, 0, 1, 1)
	for range 4 {
		clicks(t, n, 10)
	}
	vote(t, n, prepare, 1, 1, cell.Reply{Deed: 1, State: open, At: at(30, 7, 1)})
	for range 4 {
		clicks(t, n, 11)
	}
	ack(t, n, 1, 0, 1, n.State(0).Len)
	want(t, calls(t, n, 13), tells(false, at(0, 0, 0)))
	if l := ofKind(cmds(t, n, 0), decide); len(l) != 1 || !reflect.DeepEqual(l[0], cell.Cmd{Kind: decide, Deed: 1}) {
		t.Errorf("%+v", l)
	}
}

// A Decide that isn't sure decides nothing, and isn't entered twice. The shard
// is driven however many entries wait.
func TestP17_3DriveUnsure(t *testing.T) {
	n := make1(t, 0, conf(3, 2))
	lead(t, n, 0, viewOf(1, 0, 0, 1))
	lead(t, n, 1, viewOf(4, 2, 1, 2))
	ack(t, n, 1, 0, 1, 0)
	batch := []api.Write{sample(1, 2, 3)}
	called(t, n, client, 0, cell.Cmd{Kind: begin, Token: "t", Writes: batch})
	want(t, calls(t, n, 9))
	ack(t, n, 1, 0, 1, 1)
	for i := range int64(2) {
		want(t, calls(t, n, 10+i), sent{0, 2, node.Letter{Kind: call, Shard: 1, Cmd: cell.Cmd{Kind: prepare, Deed: 1, At: at(10+i, 0, 0), Writes: batch}}})
	}
	vote(t, n, prepare, 1, 1, cell.Reply{Deed: 1, State: open, At: at(30, 7, 1)})
	for range 20 {
		want(t, calls(t, n, 12))
	}
	if s := n.State(0); s.Open != 1 || s.Len > 12 {
		t.Fatalf("%+v", s)
	}
	ack(t, n, 1, 0, 1, n.State(0).Len)
	want(t, calls(t, n, 13), tells(true, at(30, 7, 1)))
	if l := ofKind(cmds(t, n, 0), decide); len(l) != 1 || !reflect.DeepEqual(l[0], cell.Cmd{Kind: decide, Deed: 1, Yes: true, At: at(30, 7, 1)}) {
		t.Errorf("%+v", l)
	}
}

// Who doesn't lead a shard, or isn't active, drives nothing.
func TestP17_3DriveIdle(t *testing.T) {
	n, batch := crossed(t)
	lead(t, n, 0, viewOf(2, 1, 0, 1))
	for range 9 {
		want(t, clicks(t, n, 10))
	}
	lead(t, n, 0, viewOf(3, 0, 0, 1))
	for range 9 {
		if l := clicks(t, n, 10); len(l) != 1 || l[0].l.Chat.Kind != relay.Offer {
			t.Fatalf("%v", l)
		}
	}
	ack(t, n, 1, 0, 3, n.State(0).Len)
	want(t, calls(t, n, 10), asksFor(batch, at(10, 18, 0)))
}

// Votes, and who has answered, are kept as long as the node is; one that is
// made anew asks again.
func TestP17_3DriveAnew(t *testing.T) {
	c, d := conf(3, 2), newDisk(t, 1<<20)
	n := load(t, 0, c, d)
	lead(t, n, 0, viewOf(1, 0, 0))
	lead(t, n, 1, viewOf(4, 2, 1, 2))
	batch := []api.Write{sample(1, 2, 3), sample(1, 3, 5)}
	m := cell.Cmd{Kind: begin, Token: "t", Writes: batch}
	enters(t, n, client, 0, m)
	asks := func(s api.Stamp) sent {
		return sent{0, 2, node.Letter{Kind: call, Shard: 1, Cmd: cell.Cmd{Kind: prepare, Deed: 1, At: s, Writes: batch}}}
	}
	want(t, calls(t, n, 10), asks(at(10, 0, 0)))
	vote(t, n, prepare, 1, 1, cell.Reply{Deed: 1, State: open, At: at(30, 7, 1)})
	n = load(t, 0, c, d)
	for i := range int64(3) {
		want(t, calls(t, n, 2000+i), asks(at(2000+i, 0, 0)))
	}
	vote(t, n, prepare, 1, 1, cell.Reply{Deed: 1, State: open, At: at(31, 7, 1)})
	// Through views that come and go nothing is forgotten.
	lead(t, n, 0, viewOf(2, 1, 0, 1))
	lead(t, n, 0, viewOf(3, 0, 0))
	calls(t, n, 2010)
	want(t, calls(t, n, 2011), tells(true, at(31, 7, 1)))
	vote(t, n, resolve, 1, 1, cell.Reply{Deed: 1, State: done, At: at(31, 7, 1)})
	want(t, calls(t, n, 2012))
	n = load(t, 0, c, d)
	want(t, calls(t, n, 4000), tells(true, at(31, 7, 1)))
	vote(t, n, resolve, 1, 1, cell.Reply{Deed: 1, State: done, At: at(31, 7, 1)})
	want(t, calls(t, n, 4001))
}

// Batches are driven in the order of the book, their shards in order, each
// shard of the node by itself.
func TestP17_3DriveOrder(t *testing.T) {
	n := make1(t, 0, conf(3, 3))
	for s := range 2 {
		lead(t, n, s, viewOf(1, 0, 0))
	}
	lead(t, n, 2, viewOf(4, 2, 1, 2))
	// Sets by their homes among three shards.
	home := func(s int) []api.Pair {
		for k := 0; ; k++ {
			if v := fmt.Sprint(k); node.Home(`{a="`+v+`"}`, 3) == s {
				return []api.Pair{{Name: "a", Value: v}}
			}
		}
	}
	for _, x := range []struct {
		s     int
		token string
	}{{1, "b"}, {1, "a"}, {0, "d"}, {0, "c"}} {
		enters(t, n, client, x.s, cell.Cmd{Kind: begin, Token: x.token, Writes: []api.Write{{Set: home(2), Time: 1, Kind: api.Gone}}})
	}
	var deeds []uint32
	var kinds []int
	for _, x := range clicks(t, n, 10) {
		kinds = append(kinds, x.l.Kind)
		if x.l.Kind == call {
			deeds = append(deeds, x.l.Cmd.Deed)
			if x.to != 2 || x.l.Shard != 2 || x.l.Cmd.Kind != prepare || x.l.Cmd.At != at(10, 0, 0) {
				t.Errorf("%v", x)
			}
		}
	}
	if !slices.Equal(deeds, []uint32{1, 5, 2, 6}) || !slices.Equal(kinds, []int{active, call, call, active, call, call}) {
		t.Errorf("%v, %v", deeds, kinds)
	}

	// One batch of all shards: two members of which the node doesn't lead.
	lead(t, n, 1, viewOf(5, 1, 1))
	enters(t, n, client, 0, cell.Cmd{Kind: begin, Token: "e", Writes: []api.Write{{Set: home(2), Time: 1, Kind: api.Gone}, {Set: home(0), Time: 1, Kind: api.Gone}, {Set: home(1), Time: 1, Kind: api.Gone}}})
	var to []int
	for _, x := range calls(t, n, 11) {
		if x.l.Cmd.Deed == 9 {
			to = append(to, x.to, x.l.Shard)
		}
	}
	if !slices.Equal(to, []int{1, 1, 2, 2}) {
		t.Errorf("%v", to)
	}
}

// The document's example.
func TestP17_Example1(t *testing.T) {
	n := make1(t, 0, node.Config{Nodes: 1, Shards: 1, Patience: 1})
	lead(t, n, 0, viewOf(1, 0, 0))
	m := cell.Cmd{Kind: begin, Token: "t", Writes: batchOf(3)}
	want(t, called(t, n, client, 0, m))
	for phys := range int64(4) {
		want(t, calls(t, n, phys))
	}
	outs := called(t, n, client, 0, m)
	if len(outs) != 1 || outs[0].to != client || outs[0].l.Reply.State != done {
		t.Fatalf("%v", outs)
	}
	if a, e := n.Ask(0, ask.Query{To: 9}, outs[0].l.Reply.At); e != api.OK || len(a.Rows) != 1 || a.Rows[0].Cells[0].Num != 3 {
		t.Errorf("%+v, error %d", a, e)
	}
}
