package node_test

import (
	"bytes"
	"fmt"
	"reflect"
	"slices"
	"testing"

	"slackwater/api"
	"slackwater/ask"
	"slackwater/cell"
	"slackwater/disk"
	"slackwater/node"
	"slackwater/post"
	"slackwater/relay"
)

// Tests of P17.5, and of nodes whose disk fails.

// copyOf is a disk with what stands on another one, all of which lasts.
func copyOf(t *testing.T, d *disk.Disk) *disk.Disk {
	t.Helper()
	c := newDisk(t, 1<<26)
	segs, e := d.Segs()
	for _, s := range segs {
		b, e1 := d.Read(s)
		e = max(e, e1, c.Append(s, b), c.Sync(s))
	}
	if e != api.OK {
		t.Fatalf("disk: error %d", e)
	}
	return c
}

// logs are all entries' commands that a disk has, of each shard: what is sure
// with a node that is made on it, and then holds the shards alone.
func logs(t *testing.T, id int, c node.Config, d *disk.Disk) [][][]byte {
	t.Helper()
	n := load(t, id, c, copyOf(t, d))
	var l [][][]byte
	for s := range c.Shards {
		lead(t, n, s, viewOf(maxWall, id, id))
		l = append(l, n.Sure(s))
	}
	return l
}

// begins says whether some entries are the beginning of others.
func begins(l, of [][]byte) bool {
	return len(l) <= len(of) && slices.EqualFunc(l, of[:len(l)], bytes.Equal)
}

// wantDead holds that nothing can be done with a node any more.
func wantDead(t *testing.T, n *node.Node, want api.Errno) {
	t.Helper()
	for _, m := range []post.Msg{{}, msg(control, node.Letter{Kind: leads, View: viewOf(maxWall, 0, 0)}), msg(1, node.Letter{Kind: active}), msg(1, node.Letter{Kind: leads, Shard: 9})} {
		if outs, e := n.Take(m, -1); len(outs) != 0 || e != want {
			t.Errorf("Take: %d messages, error %d, want %d", len(outs), e, want)
		}
	}
	for _, phys := range []int64{5, -1} {
		if outs, e := n.Tick(phys); len(outs) != 0 || e != want {
			t.Errorf("Tick: %d messages, error %d, want %d", len(outs), e, want)
		}
	}
	for _, s := range []int{0, -1, 9} {
		if a, e := n.Ask(s, ask.Query{To: 9}, at(0, 0, 0)); !reflect.DeepEqual(a, ask.Answer{}) || e != want {
			t.Errorf("Ask: %v, error %d, want %d", a, e, want)
		}
		if len(n.Sure(s)) != 0 || !reflect.DeepEqual(n.State(s), node.State{}) {
			t.Errorf("%d sure, %+v", len(n.Sure(s)), n.State(s))
		}
	}
}

func TestP17_2Dead(t *testing.T) {
	d := newDisk(t, 1<<20)
	n := load(t, 0, conf(1, 1), d)
	d.Fuse(0)
	if outs, e := n.Take(msg(control, node.Letter{Kind: leads, View: viewOf(1, 0, 0)}), 0); len(outs) != 0 || e != api.ErrDown {
		t.Fatalf("%v, error %d", outs, e)
	}
	wantDead(t, n, api.ErrDown)
	d.Crash(nil)
	wantDead(t, n, api.ErrDown)
	if s := load(t, 0, conf(1, 1), d).State(0); s.View.Epoch != 0 {
		t.Errorf("%+v", s)
	}
}

// A clock's bound that didn't last gives no stamp.
func TestP17_3DeadBound(t *testing.T) {
	for fuse := range 2 {
		d := newDisk(t, 1<<20)
		n := load(t, 0, conf(1, 1), d)
		lead(t, n, 0, viewOf(1, 0, 0))
		d.Fuse(fuse)
		if outs, e := n.Tick(5); len(outs) != 0 || e != api.ErrDown {
			t.Errorf("%v, error %d", outs, e)
		}
		wantDead(t, n, api.ErrDown)
	}
}

// A full disk ends a node, and stays as it was: the node can be made anew.
func TestP17_2DeadFull(t *testing.T) {
	for room := 400; room < 1000; room += 37 {
		c, d := conf(1, 1), newDisk(t, room)
		n := load(t, 0, c, d)
		lead(t, n, 0, viewOf(1, 0, 0))
		var sure [][]byte
		var e api.Errno
		for i := 0; e == api.OK && i < 100; i++ {
			sure = n.Sure(0)
			_, e = n.Tick(5)
		}
		if e != api.ErrFull {
			t.Fatalf("%d: error %d", room, e)
		}
		wantDead(t, n, api.ErrFull)
		if d.Crash(nil); !begins(sure, load(t, 0, c, d).Sure(0)) {
			t.Errorf("%d: %x", room, sure)
		}
	}
}

// Behind a record for which there was no place nothing is written, also by the
// same call: shorter ones that follow would stand behind a gap.
func TestP17_2DeadGap(t *testing.T) {
	c := conf(1, 1)
	full := 0
	for room := 100; room < 900; room += 5 {
		d := newDisk(t, room)
		n := load(t, 0, c, d)
		lead(t, n, 0, viewOf(1, 0, 0))
		for _, size := range []int{200, 1} {
			l := []api.Write{{Kind: api.Note, Text: string(bytes.Repeat([]byte("x"), size))}}
			n.Take(msg(client, node.Letter{Kind: call, Cmd: cell.Cmd{Kind: begin, Token: fmt.Sprint(size), Writes: l}}), 0)
		}
		if _, e := n.Tick(5); e == api.ErrFull {
			full++
		}
		if m, e := node.New(0, c, d); m == nil || e != api.OK {
			t.Fatalf("%d: error %d", room, e)
		}
	}
	if full < 40 {
		t.Errorf("%d disks were full", full)
	}
}

// run lets a node that leads the shard 0 with the member 1, and is one of the
// shard 1, get letters and tick, till it is dead; what set out.
func run(t *testing.T, n *node.Node) []sent {
	t.Helper()
	of := func(epoch int, l ...string) []relay.Entry {
		var all []relay.Entry
		for _, s := range l {
			all = append(all, relay.Entry{Epoch: epoch, Cmd: []byte(s)})
		}
		return all
	}
	chats := func(s int, m relay.Msg) node.Letter { return node.Letter{Kind: chat, Shard: s, Chat: m} }
	v := viewOf(2, 1, 0, 1)
	steps := []node.Letter{
		{Kind: leads, View: viewOf(1, 0, 0, 1)}, chats(0, relay.Msg{Kind: relay.Ack, Epoch: 1}), {Kind: call, Cmd: cell.Cmd{Kind: begin, Token: "t", Writes: batchOf(1)}}, {},
		chats(1, relay.Msg{Kind: relay.Offer, Epoch: 2, View: v, Log: of(1, "a", "b")}), chats(1, relay.Msg{Kind: relay.Ship, Epoch: 2, Index: 3, Log: of(2, "c")}), {}, chats(0, relay.Msg{Kind: relay.Ack, Epoch: 1, Index: 2}),
		chats(1, relay.Msg{Kind: relay.Ship, Epoch: 2, Index: 4, Log: of(2, "d")}), chats(1, relay.Msg{Kind: relay.Offer, Epoch: 2, View: v, Log: of(2, "a", "b", "c", "d", "e")}), {}, {}, {},
		{Kind: leads, Shard: 1, View: viewOf(3, 0, 0)}, {}, {},
	}
	var all []sent
	for i, l := range steps {
		var outs []post.Msg
		var e api.Errno
		if l.Kind == 0 {
			outs, e = n.Tick(int64(700 * i))
		} else {
			outs, e = n.Take(msg(1, l), 0)
		}
		if e != api.OK {
			if len(outs) != 0 || e != api.ErrDown {
				t.Fatalf("%d: %v, error %d", i, outs, e)
			}
			return all
		}
		all = append(all, read(t, outs)...)
	}
	return all
}

// Whatever set out hangs on what lasts: wherever the power goes, and however
// much of what wasn't synced is there.
func TestP17_5AnyStep(t *testing.T) {
	c := conf(2, 2)
	var whole []sent
	fuse, steps := 0, -1
	for ; steps < 0; fuse++ {
		for _, keep := range [][]int{nil, {1}, {9}, {14}, {30}, {1 << 20}} {
			d := newDisk(t, 1<<20)
			n := load(t, 0, c, d)
			d.Fuse(fuse)
			all := run(t, n)
			if !d.Down() {
				whole, steps = all, fuse
			}
			d.Crash(keep)
			lasts := logs(t, 0, c, d)
			wantLasts(t, all, lasts)
			wantBound(t, c, d, all)
		}
	}
	if steps < 50 || len(whole) < 25 {
		t.Errorf("%d steps, %d messages", steps, len(whole))
	}
}

// wantLasts holds that a disk has all entries that were acked, or told of.
func wantLasts(t *testing.T, all []sent, lasts [][][]byte) {
	t.Helper()
	for _, x := range of(chat, all) {
		m, l := x.l.Chat, lasts[x.l.Shard]
		switch {
		case m.Kind == relay.Ship && len(m.Log) == 1:
			if len(l) < m.Index || !bytes.Equal(l[m.Index-1], m.Log[0].Cmd) {
				t.Fatalf("%v: but the log is %x", x, l)
			}
		case len(l) < max(m.Index, len(m.Log)):
			t.Fatalf("%v: but the log is %x", x, l)
		case m.Kind == relay.Ack && !begins(l[:m.Index], [][]byte{[]byte("a"), []byte("b"), []byte("c"), []byte("d"), []byte("e")}):
			t.Fatalf("%v: but the log is %x", x, l)
		}
	}
}

// wantBound holds that a node that is made anew gives stamps behind all that
// were told.
func wantBound(t *testing.T, c node.Config, d *disk.Disk, all []sent) {
	t.Helper()
	last := int64(0)
	for _, x := range of(chat, all) {
		for _, e := range x.l.Chat.Log {
			if m, err := cell.Decode(e.Cmd); err == api.OK {
				last = max(last, m.At.Wall)
			}
		}
	}
	n := load(t, 0, c, copyOf(t, d))
	lead(t, n, 0, viewOf(9, 0, 0))
	clicks(t, n, 0)
	if l := closedAt(t, n, 0); l[len(l)-1].Wall <= last {
		t.Fatalf("%v, but %d was told", l[len(l)-1], last)
	}
}

// offer is an Offer of a log of so many entries of some bytes to the node 0.
func offer(epoch, entries, size int) node.Letter {
	m := relay.Msg{Kind: relay.Offer, Epoch: epoch, View: viewOf(epoch, 1, 0, 1)}
	for i := range entries {
		m.Log = append(m.Log, relay.Entry{Epoch: i, Cmd: bytes.Repeat([]byte{byte(i)}, size)})
	}
	return node.Letter{Kind: chat, Chat: m}
}

// Logs that are offered again and again don't fill the disk; what stands there
// is what was there.
func TestP17_3Base(t *testing.T) {
	c, d := conf(2, 2), newDisk(t, 1<<18)
	n := load(t, 0, c, d)
	lead(t, n, 1, viewOf(3, 0, 0))
	clicks(t, n, 5)
	for i := range 300 {
		if l := take(t, n, 1, offer(1+i/10, 100, 100), 0); len(l) != 1 || l[0].l.Chat.Index != 100 {
			t.Fatalf("%d: %v", i, l)
		}
		clicks(t, n, int64(10+i))
	}
	was, sure := n.State(0), n.Sure(1)
	d.Crash(nil)
	n = load(t, 0, c, d)
	if is := n.State(0); !reflect.DeepEqual(is, was) || is.Len != 100 || is.View.Epoch != 30 {
		t.Errorf("%+v, was %+v", is, was)
	}
	if l := n.Sure(1); !slices.EqualFunc(l, sure, bytes.Equal) || len(l) != 602 {
		t.Errorf("%d entries, there were %d", len(l), len(sure))
	}
	clicks(t, n, 5)
	if l := closedAt(t, n, 1); l[len(l)-1] != at(1006, 0, 0) {
		t.Errorf("%v", l[len(l)-1])
	}
	base, recs := records(t, d)
	if len(base) == 0 {
		t.Fatal("there is no base")
	}
	// A base that isn't whole, or has more behind it, is none that a node laid.
	other := slices.Clone(base)
	other[0]++
	for _, b := range [][]byte{base[:len(base)-1], append(slices.Clone(base), 0), other, base[1:], base[:1]} {
		if n, e := node.New(0, c, written(t, b, recs...)); n != nil || e != api.ErrBroken {
			t.Errorf("a base of %d bytes, %d were laid: error %d", len(b), len(base), e)
		}
	}
	if n, e := node.New(0, c, written(t, base, recs...)); n == nil || e != api.OK {
		t.Errorf("error %d", e)
	}
}

// Nor do they where the node is made anew each time.
func TestP17_3BaseAgain(t *testing.T) {
	c, d := conf(2, 1), newDisk(t, 1<<18)
	for i := range 100 {
		n := load(t, 0, c, d)
		take(t, n, 1, offer(1+i, 100, 100), 0)
	}
	if s := load(t, 0, c, d).State(0); s.Len != 100 || s.View.Epoch != 100 {
		t.Errorf("%+v", s)
	}
}

// A log that is too long for a base goes on without one.
func TestP17_3BaseTooLong(t *testing.T) {
	c, d := conf(2, 4), newDisk(t, 1<<25)
	n := load(t, 0, c, d)
	for range 4 {
		for s := range 4 {
			l := offer(1, 90, 10000)
			l.Shard = s
			take(t, n, 1, l, 0)
		}
	}
	for s := range 4 {
		if x := load(t, 0, c, copyOf(t, d)).State(s); x.Len != 90 {
			t.Errorf("%+v", x)
		}
	}
}

// Where there is no room for a base the records stay, till the disk is full.
func TestP17_3BaseNoRoom(t *testing.T) {
	c, d := conf(2, 1), newDisk(t, 30000)
	n := load(t, 0, c, d)
	for i := range 2 {
		if l := take(t, n, 1, offer(1+i, 100, 120), 0); len(l) != 1 {
			t.Fatalf("%d: %d messages", i, len(l))
		}
	}
	if s := load(t, 0, c, copyOf(t, d)).State(0); s.Len != 100 || s.View.Epoch != 2 {
		t.Errorf("%+v", s)
	}
	if outs, e := n.Take(msg(1, offer(3, 100, 120)), 0); len(outs) != 0 || e != api.ErrFull {
		t.Errorf("%d messages, error %d", len(outs), e)
	}
	wantDead(t, n, api.ErrFull)
}

// Wherever the power goes as a base is laid, the node has what it had.
func TestP17_5Base(t *testing.T) {
	c := conf(2, 2)
	steps := 0
	for fuse := range 24 {
		for _, keep := range [][]int{nil, {1}, {1 << 20, 20}, {1 << 20, 5000}, {1 << 20, 1 << 20}} {
			d := newDisk(t, 1<<20)
			n := load(t, 0, c, d)
			lead(t, n, 1, viewOf(3, 0, 0))
			clicks(t, n, 5)
			take(t, n, 1, offer(1, 100, 100), 0)
			clicks(t, n, 6)
			was, sure := n.State(0), n.Sure(1)
			d.Fuse(fuse)
			outs, e := n.Take(msg(1, offer(2, 101, 100)), 0)
			if e != api.OK && (e != api.ErrDown || len(outs) != 0) {
				t.Fatalf("%d: %v, error %d", fuse, outs, e)
			}
			if e == api.OK {
				if len(outs) != 1 {
					t.Fatalf("%d: %v", fuse, outs)
				}
				was.Len = 101
			} else {
				steps = max(steps, fuse)
				wantDead(t, n, api.ErrDown)
			}
			d.Crash(keep)
			n = load(t, 0, c, d)
			if is := n.State(0); is.Len < was.Len {
				t.Fatalf("%d, %v: %+v, was %+v", fuse, keep, is, was)
			}
			if l := n.Sure(1); !slices.EqualFunc(l, sure, bytes.Equal) {
				t.Fatalf("%d, %v: %d entries, there were %d", fuse, keep, len(l), len(sure))
			}
		}
	}
	// A promise and a list, each with its Sync, and a base's three steps.
	if steps != 6 {
		t.Errorf("the power went up to the step %d", steps)
	}
}

// The greatest body of a message finds its place; a longer one is no letter.
func TestP17_2TakeLong(t *testing.T) {
	c, d := conf(2, 1), newDisk(t, 1<<24)
	n := load(t, 0, c, d)
	l := offer(1, 4, 1<<18-1000)
	size := len(node.Seal(l))
	l.Chat.Log = append(l.Chat.Log, relay.Entry{Cmd: make([]byte, maxBody-size-1-3)})
	m := msg(1, l)
	if len(m.Body) != maxBody {
		t.Fatalf("%d bytes", len(m.Body))
	}
	for range 3 {
		if outs, e := n.Take(m, 0); len(outs) != 1 || e != api.OK {
			t.Fatalf("error %d", e)
		}
	}
	l.Chat.Log[4].Cmd = append(l.Chat.Log[4].Cmd, 0)
	refuse(t, n, msg(1, l), 0, api.ErrForm)
	if s := load(t, 0, c, d).State(0); s.Len != 5 {
		t.Errorf("%+v", s)
	}
}

// A crash that lets nothing be lost changes nothing of what a node tells.
func TestP17_5Again(t *testing.T) {
	c, d := conf(2, 2), newDisk(t, 1<<20)
	n := load(t, 0, c, d)
	run(t, n)
	was := fmt.Sprint(logs(t, 0, c, d))
	for range 3 {
		n = load(t, 0, c, d)
		d.Crash(nil)
		if is := fmt.Sprint(logs(t, 0, c, d)); is != was {
			t.Errorf("%s, was %s", is, was)
		}
	}
}
