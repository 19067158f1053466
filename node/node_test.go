package node_test

import (
	"fmt"
	"math"
	"reflect"
	"slices"
	"testing"

	"slackwater/api"
	"slackwater/ask"
	"slackwater/cell"
	"slackwater/disk"
	"slackwater/match"
	"slackwater/node"
	"slackwater/post"
	"slackwater/relay"
	"slackwater/view"
	"slackwater/wal"
)

// Tests of P17.1, of P17.2 but for calls (call_test.go), and of P17.4.

// The limits and numbers stand here as the document says them, so that the
// tests hold them, too.
const (
	maxWall   = 1 << 62
	maxTick   = 1<<32 - 1
	maxOffset = 1 << 40
	maxBody   = 1 << 20
	maxDeeds  = 1024
	maxLog    = 4096

	control = 90
	client  = 91

	chat   = 1
	leads  = 2
	active = 3
	call   = 4
	answer = 5

	begin   = 1
	decide  = 2
	prepare = 3
	resolve = 4
	closes  = 5
	cut     = 6
	retain  = 7
	pin     = 8
	tick    = 9

	open    = 1
	done    = 2
	dropped = 3
)

func TestP17_1Numbers(t *testing.T) {
	if node.Control != control || node.Client != client {
		t.Errorf("%d, %d", node.Control, node.Client)
	}
	if l := []int{node.Chat, node.Lead, node.Active, node.Call, node.Answer}; !slices.Equal(l, []int{chat, leads, active, call, answer}) {
		t.Error(l)
	}
}

// conf is a Config of so many nodes and shards.
func conf(nodes, shards int) node.Config {
	return node.Config{Nodes: nodes, Shards: shards, Offset: 50, Patience: 3}
}

func viewOf(epoch, primary int, members ...int) view.View {
	return view.View{Epoch: epoch, Primary: primary, Members: members}
}

func at(wall int64, tick, mark uint32) api.Stamp {
	return api.Stamp{Wall: wall, Tick: tick, Mark: mark}
}

func newDisk(t *testing.T, room int) *disk.Disk {
	t.Helper()
	d, e := disk.New(room)
	if e != api.OK {
		t.Fatalf("disk: error %d", e)
	}
	return d
}

func load(t *testing.T, id int, c node.Config, d *disk.Disk) *node.Node {
	t.Helper()
	n, e := node.New(id, c, d)
	if n == nil || e != api.OK {
		t.Fatalf("New(%d, %+v): %v, error %d", id, c, n, e)
	}
	return n
}

// make1 is a node on a disk of its own.
func make1(t *testing.T, id int, c node.Config) *node.Node {
	t.Helper()
	return load(t, id, c, newDisk(t, 1<<22))
}

// sent is a message that set out.
type sent struct {
	from, to int
	l        node.Letter
}

func (s sent) String() string { return fmt.Sprintf("%d to %d: %+v", s.from, s.to, s.l) }

// read is the messages that a call answered.
func read(t *testing.T, l []post.Msg) []sent {
	t.Helper()
	var all []sent
	for _, m := range l {
		x, e := node.Open(m.Body)
		if e != api.OK {
			t.Fatalf("%d to %d: %x: error %d", m.From, m.To, m.Body, e)
		}
		all = append(all, sent{m.From, m.To, x})
	}
	return all
}

// of are those of some kind.
func of(kind int, l []sent) []sent {
	return slices.DeleteFunc(slices.Clone(l), func(s sent) bool { return s.l.Kind != kind })
}

// want holds that just these messages set out; nil and empty lists are one.
func want(t *testing.T, got []sent, l ...sent) {
	t.Helper()
	if fmt.Sprint(got) != fmt.Sprint(l) {
		t.Fatalf("there set out %v, want %v", got, l)
	}
}

func msg(from int, l node.Letter) post.Msg {
	return post.Msg{From: from, Body: node.Seal(l)}
}

// take lets a node take a letter; what sets out then.
func take(t *testing.T, n *node.Node, from int, l node.Letter, phys int64) []sent {
	t.Helper()
	outs, e := n.Take(msg(from, l), phys)
	if e != api.OK {
		t.Fatalf("Take(%+v): error %d", l, e)
	}
	return read(t, outs)
}

// refuse holds that a letter is refused, and nothing is changed.
func refuse(t *testing.T, n *node.Node, m post.Msg, phys int64, want api.Errno) {
	t.Helper()
	was := tell(n)
	if outs, e := n.Take(m, phys); len(outs) != 0 || e != want {
		t.Errorf("Take(%x): %v, error %d, want %d", m.Body, outs, e, want)
	}
	if is := tell(n); is != was {
		t.Errorf("Take(%x): is %s, was %s", m.Body, is, was)
	}
}

// tell is all that a node tells, but by its Ticks.
func tell(n *node.Node) string {
	s := ""
	for i := range 4 {
		s += fmt.Sprintf("%+v %x; ", n.State(i), n.Sure(i))
	}
	return s
}

// lead tells a node of a view.
func lead(t *testing.T, n *node.Node, s int, v view.View) {
	t.Helper()
	if l := take(t, n, control, node.Letter{Kind: leads, Shard: s, View: v}, 0); len(l) != 0 {
		t.Fatalf("Lead(%v): %v", v, l)
	}
}

// ack lets a node take a member's Ack.
func ack(t *testing.T, n *node.Node, from, s, epoch, index int) {
	t.Helper()
	if l := take(t, n, from, node.Letter{Kind: chat, Shard: s, Chat: relay.Msg{Kind: relay.Ack, Epoch: epoch, Index: index}}, 0); len(l) != 0 {
		t.Fatalf("Ack: %v", l)
	}
}

// clicks lets a node tick, of which there is no error.
func clicks(t *testing.T, n *node.Node, phys int64) []sent {
	t.Helper()
	outs, e := n.Tick(phys)
	if e != api.OK {
		t.Fatalf("Tick(%d): error %d", phys, e)
	}
	return read(t, outs)
}

// cmds are the commands that a node knows to be sure.
func cmds(t *testing.T, n *node.Node, s int) []cell.Cmd {
	t.Helper()
	var l []cell.Cmd
	for _, b := range n.Sure(s) {
		m, e := cell.Decode(b)
		if e != api.OK {
			t.Fatalf("%x: error %d", b, e)
		}
		l = append(l, m)
	}
	return l
}

// ofKind are those of some kinds.
func ofKind(l []cell.Cmd, kinds ...int) []cell.Cmd {
	return slices.DeleteFunc(slices.Clone(l), func(m cell.Cmd) bool { return !slices.Contains(kinds, m.Kind) })
}

// lone is a node that holds all shards alone, and leads them.
func lone(t *testing.T, shards int) *node.Node {
	t.Helper()
	n := make1(t, 0, conf(1, shards))
	for s := range shards {
		lead(t, n, s, viewOf(1, 0, 0))
	}
	return n
}

// sets are sets by their homes among two shards.
func setOf(home, i int) []api.Pair {
	for k := 0; ; k++ {
		set := []api.Pair{{Name: "a", Value: fmt.Sprint(k)}}
		if node.Home(fmt.Sprintf(`{a="%d"}`, k), 2) == home {
			if i == 0 {
				return set
			}
			i--
		}
	}
}

// sample is a write of a sample to a shard among two.
func sample(home int, time, num int64) api.Write {
	return api.Write{Set: setOf(home, 0), Time: time, Kind: api.Sample, Num: num}
}

func TestP17_1RightConfig(t *testing.T) {
	right := []node.Config{{1, 1, 0, 1}, {8, 4, maxOffset, 1000}, {3, 2, 9, 5}}
	for _, c := range right {
		if !node.RightConfig(c) {
			t.Errorf("%+v isn't right", c)
		}
	}
	wrong := []node.Config{
		{}, {0, 1, 0, 1}, {9, 1, 0, 1}, {-1, 1, 0, 1}, {1, 0, 0, 1}, {1, 5, 0, 1}, {1, -1, 0, 1}, {1, 1, -1, 1}, {1, 1, maxOffset + 1, 1},
		{1, 1, 0, 0}, {1, 1, 0, 1001}, {1, 1, 0, -1}, {math.MaxInt, 1, 0, 1}, {1, math.MinInt, 0, 1}, {1, 1, math.MaxInt64, 1}, {1, 1, math.MinInt64, 1}, {1, 1, 0, math.MaxInt},
	}
	for _, c := range wrong {
		if node.RightConfig(c) {
			t.Errorf("%+v is right", c)
		}
	}
}

func TestP17_1Home(t *testing.T) {
	for _, x := range []struct {
		s      string
		shards int
		want   int
	}{
		{"", math.MaxInt, 0x811c9dc5}, {"a", 1 << 32, 0xe40c292c}, {"foobar", 1 << 40, 0xbf9cf968}, {"foobar", 0xbf9cf968, 0}, {"foobar", 0xbf9cf967, 1},
		{"", 4, 1}, {"", 3, 2166136261 % 3}, {"a", 4, 0}, {"a", 3, 0xe40c292c % 3}, {"foobar", 7, 0xbf9cf968 % 7}, {"foobar", 1, 0}, {"foobar", 0, 0},
		{"foobar", -3, 0}, {"foobar", math.MinInt, 0}, {"\xff", 1 << 32, (2166136261 ^ 0xff) * 16777619 % (1 << 32)}, {"\x00", 1 << 32, 2166136261 * 16777619 % (1 << 32)},
	} {
		if got := node.Home(x.s, x.shards); got != x.want {
			t.Errorf("Home(%q, %d): %d, want %d", x.s, x.shards, got, x.want)
		}
	}
}

func TestP17_1Split(t *testing.T) {
	l := []api.Write{
		{Time: 1, Kind: api.Sample, Num: 7},
		{Set: setOf(1, 0), Time: 2, Kind: api.Note, Text: "x"},
		{Set: setOf(0, 0), Time: 3, Kind: api.Gone},
		{Set: setOf(1, 1), Time: 4, Kind: api.Sample, Num: -1},
		{Set: setOf(1, 0), Time: 1, Kind: api.Sample, Num: -1},
		{Set: []api.Pair{{Name: "!", Value: ""}, {Name: "", Value: "\""}}, Time: -5, Kind: 77},
	}
	texts := []string{"{}", `{a="`, `{a="`, `{a="`, `{a="`, `{!="",="\""}`}
	for _, shards := range []int{2, 4, 1, 0, -1, 1000, math.MaxInt} {
		want := map[int][]api.Write{}
		for i, w := range l {
			text := texts[i]
			if text == `{a="` {
				text += w.Set[0].Value + `"}`
			}
			h := node.Home(text, shards)
			want[h] = append(want[h], w)
		}
		if got := node.Split(l, shards); !reflect.DeepEqual(got, want) {
			t.Errorf("among %d: %v, want %v", shards, got, want)
		}
	}
	if got := node.Split(nil, 3); len(got) != 0 {
		t.Error(got)
	}
}

// What Split answers is new memory.
func TestP17_1SplitIsNew(t *testing.T) {
	set := setOf(0, 0)
	l := []api.Write{{Set: set, Time: 1}, {Set: set, Time: 2}}
	got := node.Split(l, 1)[0]
	got[0].Time, got[0].Set[0].Value = 9, "changed"
	if l[0].Time != 1 || set[0].Value == "changed" || got[1].Set[0].Value == "changed" {
		t.Error(l, got)
	}
}

func TestP17_2NewErrors(t *testing.T) {
	c := conf(3, 2)
	down := func() *disk.Disk {
		d := newDisk(t, 1<<20)
		d.Fuse(0)
		d.Append(1, nil)
		return d
	}
	for _, x := range []struct {
		id   int
		c    node.Config
		d    *disk.Disk
		want api.Errno
	}{
		{0, c, nil, api.ErrNil}, {9, node.Config{}, nil, api.ErrNil},
		{0, node.Config{}, newDisk(t, 1<<20), api.ErrArg}, {0, node.Config{}, down(), api.ErrArg},
		{-1, c, newDisk(t, 1<<20), api.ErrArg}, {3, c, newDisk(t, 1<<20), api.ErrArg}, {math.MaxInt, c, newDisk(t, 1<<20), api.ErrArg}, {math.MinInt, c, down(), api.ErrArg},
		{0, c, down(), api.ErrDown}, {0, c, newDisk(t, 0), api.ErrFull}, {0, c, newDisk(t, 17), api.ErrFull},
	} {
		if n, e := node.New(x.id, x.c, x.d); n != nil || e != x.want {
			t.Errorf("New(%d, %+v): %v, error %d, want %d", x.id, x.c, n, e, x.want)
		}
	}
	for id := range 3 {
		if n, e := node.New(id, c, newDisk(t, 18)); n == nil || e != api.OK {
			t.Errorf("New(%d): %v, error %d", id, n, e)
		}
	}
}

// records is what stands on a disk.
func records(t *testing.T, d *disk.Disk) ([]byte, [][]byte) {
	t.Helper()
	_, base, recs, e := wal.Open(d)
	if e != api.OK {
		t.Fatalf("wal: error %d", e)
	}
	return base, recs
}

// written is a disk on which these stand.
func written(t *testing.T, base []byte, recs ...[]byte) *disk.Disk {
	t.Helper()
	d := newDisk(t, 1<<24)
	w, _, _, e := wal.Open(d)
	if len(base) > 0 {
		e = max(e, w.Rebase(base))
	}
	for _, b := range recs {
		e = max(e, w.Append(b), w.Sync())
	}
	if e != api.OK {
		t.Fatalf("wal: error %d", e)
	}
	return d
}

func TestP17_2NewBroken(t *testing.T) {
	c := conf(2, 2)
	for _, junk := range [][]byte{{}, {0}, {1}, {2}, {1, 2, 3}, {0, 0, 0, 0}, []byte("x"), []byte("junk"), {255}, {255, 255, 255, 255, 255, 255, 255, 255, 255}, make([]byte, 100)} {
		if n, e := node.New(0, c, written(t, nil, junk)); n != nil || e != api.ErrBroken {
			t.Errorf("the record %x: %v, error %d", junk, n, e)
		}
		if n, e := node.New(0, c, written(t, junk)); len(junk) > 0 && (n != nil || e != api.ErrBroken) {
			t.Errorf("the base %x: %v, error %d", junk, n, e)
		}
	}
}

// busy is a disk on which a node has written records of all kinds.
func busy(t *testing.T, c node.Config) *disk.Disk {
	t.Helper()
	d := newDisk(t, 1<<22)
	n := load(t, 0, c, d)
	lead(t, n, 0, viewOf(1, 0, 0))
	lead(t, n, 1, viewOf(2, 1, 0, 1))
	clicks(t, n, 5)
	take(t, n, 1, node.Letter{Kind: chat, Shard: 1, Chat: relay.Msg{Kind: relay.Offer, Epoch: 2, View: viewOf(2, 1, 0, 1), Log: []relay.Entry{{Epoch: 1, Cmd: []byte("x")}}}}, 0)
	take(t, n, 1, node.Letter{Kind: chat, Shard: 1, Chat: relay.Msg{Kind: relay.Ship, Epoch: 2, Index: 2, Sure: 1, Log: []relay.Entry{{Epoch: 2, Cmd: []byte("y")}}}}, 0)
	clicks(t, n, 2000)
	return d
}

// Records that are there once too often, or not whole, or of another Config,
// weren't written by a node.
func TestP17_2NewBrokenRecords(t *testing.T) {
	c := conf(2, 2)
	base, recs := records(t, busy(t, c))
	if n, e := node.New(0, c, written(t, base, recs...)); n == nil || e != api.OK {
		t.Fatalf("error %d", e)
	}
	if len(base) != 0 || len(recs) < 7 {
		t.Fatalf("%x, %x", base, recs)
	}
	broken := func(why string, l ...[]byte) {
		t.Helper()
		if n, e := node.New(0, c, written(t, nil, l...)); n != nil || e != api.ErrBroken {
			t.Errorf("%s: %v, error %d", why, n, e)
		}
	}
	for i, b := range recs {
		ahead := slices.Clone(recs[:i])
		broken("shorter", append(ahead, b[:len(b)-1])...)
		broken("longer", append(ahead, append(slices.Clone(b), 0))...)
	}
	broken("an entry twice", append(slices.Clone(recs), recs[len(recs)-1])...)
	broken("the first twice", recs[0], recs[0])
	broken("a bound that doesn't rise", append(slices.Clone(recs[:3]), recs[2])...)
	broken("a bound that falls", append(slices.Clone(recs), recs[2])...)
	if n, e := node.New(0, conf(2, 1), written(t, nil, recs...)); n != nil || e != api.ErrBroken {
		t.Errorf("of one shard: %v, error %d", n, e)
	}
}

// A node that is made on its disk anew is as its records tell it.
func TestP17_2NewLoads(t *testing.T) {
	c := conf(2, 2)
	d := busy(t, c)
	n := load(t, 0, c, d)
	if s := n.State(0); !reflect.DeepEqual(s.View, viewOf(1, 0, 0)) || !s.Active || s.Len != 4 || s.Sure != 4 || s.Closed != at(2000, 0, maxTick) {
		t.Errorf("%+v", s)
	}
	if s := n.State(1); !reflect.DeepEqual(s.View, viewOf(2, 1, 0, 1)) || s.Active || s.Len != 2 || s.Sure != 0 {
		t.Errorf("%+v", s)
	}
	// The mark is the id; the stamps stand behind the bound that lasted.
	clicks(t, n, 7)
	l := ofKind(cmds(t, n, 0), closes)
	if len(l) != 3 || l[0].At != at(5, 0, 0) || l[1].At != at(2000, 0, 0) || l[2].At != at(3001, 0, 0) {
		t.Errorf("%+v", l)
	}
}

func TestP17_2MarkIsId(t *testing.T) {
	n := make1(t, 3, conf(4, 1))
	lead(t, n, 0, viewOf(1, 3, 3))
	clicks(t, n, 5)
	if l := ofKind(cmds(t, n, 0), closes); len(l) != 1 || l[0].At != at(5, 0, 3) {
		t.Errorf("%+v", l)
	}
}

func TestP17_2TakeErrors(t *testing.T) {
	n := lone(t, 2)
	for _, b := range [][]byte{nil, {}, {1}, {0, 0}, {12, 0}, []byte("letter"), make([]byte, 100)} {
		refuse(t, n, post.Msg{From: control, Body: b}, 1, api.ErrForm)
	}
	good := node.Letter{Kind: leads, Shard: 1, View: viewOf(2, 0, 0)}
	refuse(t, n, post.Msg{From: control, Body: append(node.Seal(good), 0)}, 1, api.ErrForm)
	for _, kind := range []int{chat, leads, active, call, answer} {
		for _, s := range []int{2, -1, 4, math.MaxInt, math.MinInt} {
			refuse(t, n, msg(control, node.Letter{Kind: kind, Shard: s, View: viewOf(2, 0, 0), Cmd: cell.Cmd{Kind: prepare}}), -1, api.ErrArg)
		}
	}
	for _, v := range []view.View{{}, viewOf(0, 0, 0), viewOf(2, 1, 0), viewOf(2, 0), viewOf(2, 0, 0, 0), viewOf(2, 0, 0, 8), viewOf(maxWall+1, 0, 0)} {
		refuse(t, n, msg(control, node.Letter{Kind: leads, View: v}), 1, api.ErrArg)
	}
	var none *node.Node
	if outs, e := none.Take(msg(0, good), 1); len(outs) != 0 || e != api.ErrNil {
		t.Errorf("%v, error %d", outs, e)
	}
	if outs, e := none.Take(post.Msg{}, -1); len(outs) != 0 || e != api.ErrNil {
		t.Errorf("%v, error %d", outs, e)
	}
}

// A call of Prepare, and that alone, is held against the clock.
func TestP17_2TakeClock(t *testing.T) {
	n := lone(t, 1)
	clicks(t, n, 100) // the bound is 1100
	letter := func(kind int, s api.Stamp) node.Letter {
		return node.Letter{Kind: call, Cmd: cell.Cmd{Kind: kind, Deed: 8, At: s, N: 1, Writes: []api.Write{{Kind: api.Gone}}}}
	}
	for _, phys := range []int64{-1, maxWall + 1, math.MinInt64, math.MaxInt64} {
		refuse(t, n, msg(1, letter(prepare, at(5, 0, 0))), phys, api.ErrArg)
	}
	refuse(t, n, msg(1, letter(prepare, at(151, 0, 0))), 100, api.ErrOffset)
	refuse(t, n, msg(1, letter(prepare, at(maxWall, maxTick, 0))), 100, api.ErrOffset)
	refuse(t, n, post.Msg{Body: node.Seal(letter(prepare, at(-1, 0, 0)))}, 100, api.ErrForm)
	take(t, n, 1, letter(cut, at(maxWall, 0, 0)), -1)
	if l := cmds(t, n, 0); len(l) != 3 || l[2].Kind != cut {
		t.Errorf("%+v", l)
	}
	// The clock goes on behind the stamp.
	take(t, n, 1, letter(prepare, at(150, 7, 1)), 100)
	clicks(t, n, 100)
	l := ofKind(cmds(t, n, 0), prepare, closes)
	if len(l) != 3 || l[1].At != at(150, 7, 1) || l[2].At != at(150, 9, 0) {
		t.Errorf("%+v", l)
	}
}

// Where the clock has no stamp to give, a call of Prepare isn't refused for it.
func TestP17_2TakeClockBound(t *testing.T) {
	n := lone(t, 1)
	l := node.Letter{Kind: call, Cmd: cell.Cmd{Kind: prepare, Deed: 8, At: at(40, 0, 0), Writes: []api.Write{{Kind: api.Gone}}}}
	take(t, n, 1, l, 5) // the bound is 0: ErrUpper
	if got := cmds(t, n, 0); len(got) != 1 || got[0].Kind != prepare {
		t.Errorf("%+v", got)
	}
	l.Cmd.Deed, l.Cmd.At = 12, at(maxWall, maxTick, 0)
	take(t, n, 1, l, maxWall) // no stamp stands behind: ErrOver
	if got := cmds(t, n, 0); len(got) != 2 {
		t.Errorf("%+v", got)
	}
	clicks(t, n, 5)
	if got := ofKind(cmds(t, n, 0), closes); len(got) != 1 || got[0].At != at(5, 0, 0) {
		t.Errorf("%+v", got)
	}
}

// The clock takes a Prepare's stamp also where nothing is done then.
func TestP17_2TakeClockIdle(t *testing.T) {
	n := make1(t, 0, conf(1, 2))
	lead(t, n, 1, viewOf(1, 0, 0))
	clicks(t, n, 100)
	take(t, n, 1, node.Letter{Kind: call, Cmd: cell.Cmd{Kind: prepare, Deed: 8, At: at(150, 7, 1)}}, 100)
	clicks(t, n, 100)
	if l := ofKind(cmds(t, n, 1), closes); len(l) != 2 || l[1].At != at(150, 9, 0) {
		t.Errorf("%+v", l)
	}
}

func TestP17_2TakeChat(t *testing.T) {
	c := conf(2, 2)
	a, d := make1(t, 0, c), newDisk(t, 1<<22)
	b := load(t, 1, c, d)
	v := viewOf(1, 0, 0, 1)
	lead(t, a, 1, v)
	offers := clicks(t, a, 5)
	want(t, offers, sent{0, 1, node.Letter{Kind: chat, Shard: 1, Chat: relay.Msg{Kind: relay.Offer, Epoch: 1, View: v}}})
	acks := take(t, b, 0, offers[0].l, 5)
	want(t, acks, sent{1, 0, node.Letter{Kind: chat, Shard: 1, Chat: relay.Msg{Kind: relay.Ack, Epoch: 1}}})
	if s := b.State(1); !reflect.DeepEqual(s, node.State{View: v}) || !reflect.DeepEqual(b.State(0), node.State{}) {
		t.Errorf("%+v", s)
	}
	// From another node it isn't the primary's.
	want(t, take(t, b, 2, offers[0].l, 5))
	want(t, take(t, a, 1, acks[0].l, 5))
	if s := a.State(1); !s.Active || s.Len != 0 {
		t.Errorf("%+v", s)
	}
	ships := of(chat, clicks(t, a, 6))
	if len(ships) != 3 || a.State(1).Len != 2 || a.State(1).Sure != 0 {
		t.Fatalf("%v, %+v", ships, a.State(1))
	}
	for i, x := range ships {
		m := x.l.Chat
		if x.from != 0 || x.to != 1 || x.l.Shard != 1 || m.Kind != relay.Ship || m.Index != i || len(m.Log) != min(i, 1) {
			t.Errorf("%v", x)
		}
		acks = take(t, b, 0, x.l, 6)
		want(t, acks, sent{1, 0, node.Letter{Kind: chat, Shard: 1, Chat: relay.Msg{Kind: relay.Ack, Epoch: 1, Index: i}}})
	}
	take(t, a, 1, acks[0].l, 6)
	// As soon as it is sure it is applied, by each node.
	if s := a.State(1); s.Sure != 2 || s.Closed != at(6, 0, maxTick) || b.State(1).Sure != 0 || b.State(1).Closed != at(0, 0, 0) {
		t.Errorf("%+v, %+v", s, b.State(1))
	}
	for _, x := range of(chat, clicks(t, a, 7)) {
		take(t, b, 0, x.l, 7)
	}
	if s := b.State(1); s.Sure != 2 || s.Len != 4 || s.Closed != at(6, 0, maxTick) {
		t.Errorf("%+v", s)
	}
	if s := load(t, 1, c, d).State(1); !reflect.DeepEqual(s, node.State{View: v, Len: 4}) {
		t.Errorf("%+v", s)
	}
}

func TestP17_2TakeLead(t *testing.T) {
	n := make1(t, 0, conf(2, 2))
	lead(t, n, 1, viewOf(2, 1, 0, 1))
	if s := n.State(1); !reflect.DeepEqual(s, node.State{View: viewOf(2, 1, 0, 1)}) || n.State(0).View.Epoch != 0 {
		t.Errorf("%+v", s)
	}
	lead(t, n, 1, viewOf(2, 0, 0))
	lead(t, n, 1, viewOf(1, 0, 0))
	if s := n.State(1); s.View.Primary != 1 || s.Active {
		t.Errorf("%+v", s)
	}
	lead(t, n, 1, viewOf(3, 0, 0))
	if s := n.State(1); !s.Active || s.View.Epoch != 3 {
		t.Errorf("%+v", s)
	}
}

// An Active is for the control; a node does nothing with it.
func TestP17_2TakeActive(t *testing.T) {
	n := lone(t, 1)
	was := tell(n)
	want(t, take(t, n, 1, node.Letter{Kind: active, Epoch: 7}, 0))
	if is := tell(n); is != was {
		t.Errorf("is %s, was %s", is, was)
	}
}

// What isn't a command's bytes is applied, too: by doing nothing.
func TestP17_2AppliesAnyBytes(t *testing.T) {
	n := make1(t, 1, conf(2, 1))
	v := viewOf(1, 0, 0, 1)
	batch := []api.Write{{Time: 2, Kind: api.Sample, Num: 3}}
	l := []relay.Entry{{Cmd: nil}, {Cmd: []byte("x")}, {Cmd: cell.Encode(cell.Cmd{Kind: 77})}, {Cmd: cell.Encode(cell.Cmd{Kind: begin, Token: "t", Writes: batch})}, {Cmd: append(cell.Encode(cell.Cmd{Kind: tick}), 0)}, {Cmd: cell.Encode(cell.Cmd{Kind: closes, At: at(5, 0, 0)})}}
	take(t, n, 0, node.Letter{Kind: chat, Chat: relay.Msg{Kind: relay.Offer, Epoch: 1, View: v, Sure: 5, Log: l}}, 0)
	if s := n.State(0); s.Sure != 5 || s.Open != 1 || s.Closed != at(0, 0, 0) {
		t.Errorf("%+v", s)
	}
	take(t, n, 0, node.Letter{Kind: chat, Chat: relay.Msg{Kind: relay.Ship, Epoch: 1, Index: 6, Sure: 6}}, 0)
	if s := n.State(0); s.Sure != 6 || s.Open != 1 || s.Closed != at(5, 0, maxTick) {
		t.Errorf("%+v", s)
	}
	got := n.Sure(0)
	if len(got) != 6 || len(got[0]) != 0 || string(got[1]) != "x" {
		t.Errorf("%x", got)
	}
}

func TestP17_4Ask(t *testing.T) {
	n := lone(t, 2)
	take(t, n, client, node.Letter{Kind: call, Cmd: cell.Cmd{Kind: begin, Token: "t", Writes: []api.Write{sample(0, 2, 3), sample(1, 4, 5)}}}, 0)
	for phys := range int64(5) {
		clicks(t, n, 10+phys)
	}
	for s := range 2 {
		a, e := n.Ask(s, ask.Query{To: 9}, at(14, 0, 0))
		if e != api.OK || len(a.Rows) != 1 || a.Rows[0].Cells[0].Num != int64(3+2*s) {
			t.Errorf("%d: %+v, error %d", s, a, e)
		}
	}
	var none *node.Node
	right := ask.Query{To: 9}
	for _, x := range []struct {
		n    *node.Node
		s    int
		q    ask.Query
		at   api.Stamp
		want api.Errno
	}{
		{none, 0, right, at(1, 0, 0), api.ErrNil}, {none, -1, ask.Query{To: -1}, at(-1, 0, 0), api.ErrNil},
		{n, -1, right, at(1, 0, 0), api.ErrArg}, {n, 2, right, at(1, 0, 0), api.ErrArg}, {n, math.MaxInt, right, at(99, 0, 0), api.ErrArg}, {n, math.MinInt, right, at(99, 0, 0), api.ErrArg},
		{n, 0, ask.Query{To: -1}, at(99, 0, 0), api.ErrArg}, {n, 0, right, at(-1, 0, 0), api.ErrArg}, {n, 0, ask.Query{Rules: []match.Rule{{}}}, at(99, 0, 0), api.ErrArg},
		{n, 0, right, at(15, 0, 0), api.ErrWait},
	} {
		if a, e := x.n.Ask(x.s, x.q, x.at); !reflect.DeepEqual(a, ask.Answer{}) || e != x.want {
			t.Errorf("Ask(%d, %+v, %v): %+v, error %d, want %d", x.s, x.q, x.at, a, e, x.want)
		}
	}
}

func TestP17_4Tells(t *testing.T) {
	n := lone(t, 2)
	batch := []api.Write{sample(1, 4, 5)}
	take(t, n, client, node.Letter{Kind: call, Shard: 1, Cmd: cell.Cmd{Kind: begin, Token: "t", Writes: batch}}, 0)
	take(t, n, client, node.Letter{Kind: call, Shard: 1, Cmd: cell.Cmd{Kind: begin, Token: "u", Writes: batch}}, 0)
	take(t, n, client, node.Letter{Kind: call, Shard: 1, Cmd: cell.Cmd{Kind: prepare, Deed: 77, At: at(20, 0, 0), Writes: batch}}, 0)
	if s := n.State(1); !reflect.DeepEqual(s, node.State{View: viewOf(1, 0, 0), Active: true, Len: 3, Sure: 3, Held: 1, Open: 2}) {
		t.Errorf("%+v", s)
	}
	clicks(t, n, 10)
	take(t, n, client, node.Letter{Kind: call, Shard: 1, Cmd: cell.Cmd{Kind: cut, At: at(7, 0, 0)}}, 0)
	if s := n.State(1); s.Closed != at(10, 0, maxTick) || s.Safe != at(7, 0, 0) || s.Held != 3 || s.Open != 2 {
		t.Errorf("%+v", s)
	}
	for phys := range int64(5) {
		clicks(t, n, 11+phys)
	}
	if s := n.State(1); s.Held != 1 || s.Open != 0 || s.Len != s.Sure || s.Len != len(n.Sure(1)) {
		t.Errorf("%+v", s)
	}
	var none *node.Node
	for _, s := range []int{-1, 2, 4, math.MaxInt, math.MinInt} {
		if !reflect.DeepEqual(n.State(s), node.State{}) || len(n.Sure(s)) != 0 {
			t.Errorf("%d: %+v, %x", s, n.State(s), n.Sure(s))
		}
	}
	if !reflect.DeepEqual(none.State(0), node.State{}) || len(none.Sure(0)) != 0 {
		t.Error("of a nil node")
	}
	if outs, e := none.Tick(5); len(outs) != 0 || e != api.ErrNil {
		t.Errorf("%v, error %d", outs, e)
	}
	if outs, e := none.Tick(-1); len(outs) != 0 || e != api.ErrNil {
		t.Errorf("%v, error %d", outs, e)
	}
}

// What is handed out is new memory, and what is handed in isn't kept.
func TestR3(t *testing.T) {
	n := lone(t, 2)
	m := msg(client, node.Letter{Kind: call, Cmd: cell.Cmd{Kind: begin, Token: "t", Writes: []api.Write{sample(0, 2, 3)}}})
	room := append(m.Body, "room"...)
	m.Body = room[:len(m.Body)]
	body := slices.Clone(room)
	n.Take(m, 0)
	if !slices.Equal(room, body) {
		t.Errorf("%x, was %x", room, body)
	}
	clear(room)
	for phys := range int64(4) {
		outs, _ := n.Tick(10 + phys)
		for _, x := range outs {
			clear(x.Body)
		}
	}
	was := tell(n)
	for _, b := range n.Sure(0) {
		clear(b)
	}
	v := n.State(0).View
	v.Members[0] = 7
	a, _ := n.Ask(0, ask.Query{To: 9}, at(9, 0, 0))
	for _, r := range a.Rows {
		r.Set[0].Value, r.Cells[0].Num = "changed", 0
	}
	if is := tell(n); is != was || n.State(0).Open != 0 {
		t.Errorf("is %s, was %s", is, was)
	}
	if a, e := n.Ask(0, ask.Query{To: 9}, at(13, 0, 0)); e != api.OK || len(a.Rows) != 1 || a.Rows[0].Cells[0].Num != 3 || a.Rows[0].Set[0] != setOf(0, 0)[0] {
		t.Errorf("%+v, error %d", a, e)
	}
}

// A node that New didn't make does nothing, but ends.
func TestR1ZeroNode(t *testing.T) {
	var n node.Node
	n.Take(msg(0, node.Letter{Kind: leads, View: viewOf(1, 0, 0)}), 5)
	n.Take(msg(0, node.Letter{Kind: call, Cmd: cell.Cmd{Kind: prepare}}), 5)
	n.Tick(5)
	n.Tick(-1)
	n.Ask(0, ask.Query{}, at(0, 0, 0))
	if !reflect.DeepEqual(n.State(0), node.State{}) || len(n.Sure(0)) != 0 {
		t.Error("it tells something")
	}
}
