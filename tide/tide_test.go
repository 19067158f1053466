package tide_test

import (
	"fmt"
	"math"
	"reflect"
	"slices"
	"testing"

	"slackwater/api"
	"slackwater/ask"
	"slackwater/cell"
	"slackwater/node"
	"slackwater/tide"
	"slackwater/view"
)

// Tests of P18.1.

// The limits and numbers stand here as the document says them, so that the
// tests hold them, too.
const (
	maxWall   = 1 << 62
	maxTick   = 1<<32 - 1
	maxOffset = 1 << 40
	maxRoom   = 1 << 26
	maxQueue  = 4096

	begin   = 1
	decide  = 2
	prepare = 3
	resolve = 4
	closes  = 5
	cut     = 6
	retain  = 7
	pin     = 8
	tick    = 9

	open    = 1
	done    = 2
	dropped = 3
)

// conf is a Config of so many nodes and shards.
func conf(nodes, shards int) node.Config {
	return node.Config{Nodes: nodes, Shards: shards, Offset: 100, Patience: 5}
}

func at(wall int64, tick, mark uint32) api.Stamp {
	return api.Stamp{Wall: wall, Tick: tick, Mark: mark}
}

func newTide(t *testing.T, c node.Config, room int) *tide.Tide {
	t.Helper()
	x, e := tide.New(c, room)
	if x == nil || e != api.OK {
		t.Fatalf("New(%+v, %d): %v, error %d", c, room, x, e)
	}
	return x
}

// want holds that a call answered this error.
func want(t *testing.T, what string, e, want api.Errno) {
	t.Helper()
	if e != want {
		t.Fatalf("%s: error %d, want %d", what, e, want)
	}
}

// flow lets all that is on its way arrive, and what sets out by that, too.
func flow(t *testing.T, x *tide.Tide, phys int64) {
	t.Helper()
	for range 10000 {
		if x.Len() == 0 {
			return
		}
		want(t, "Deliver(0)", x.Deliver(0, phys), api.OK)
	}
	t.Fatal("messages set out without an end")
}

// round lets all that is on its way arrive, and all nodes tick.
func round(t *testing.T, x *tide.Tide, phys int64) {
	t.Helper()
	flow(t, x, phys)
	for n := range x.Config().Nodes {
		want(t, fmt.Sprintf("Tick(%d)", n), x.Tick(n, phys), api.OK)
	}
}

// rounds are so many of them, from a reading on; the reading behind them.
func rounds(t *testing.T, x *tide.Tide, n int, phys int64) int64 {
	t.Helper()
	for range n {
		round(t, x, phys)
		phys++
	}
	return phys
}

// led is a tide whose shards' first views are led; nothing is on its way.
func led(t *testing.T, c node.Config) *tide.Tide {
	t.Helper()
	x := newTide(t, c, 1<<22)
	for s := range c.Shards {
		want(t, "Announce", x.Announce(s), api.OK)
	}
	rounds(t, x, 3, 10)
	for s := range c.Shards {
		if !x.State(x.View(s).Primary, s).Active {
			t.Fatalf("the shard %d isn't led: %+v", s, x.State(x.View(s).Primary, s))
		}
	}
	flow(t, x, 13)
	return x
}

// tell is all that a tide tells, but by what changes it.
func tell(x *tide.Tide) string {
	if x == nil {
		return ""
	}
	s := fmt.Sprintf("%d %+v; ", x.Len(), x.Config())
	for i := range x.Config().Shards {
		s += fmt.Sprintf("%+v; ", x.View(i))
	}
	for n := range x.Config().Nodes {
		s += fmt.Sprintf("%v: ", x.Up(n))
		for i := range x.Config().Shards {
			s += fmt.Sprintf("%+v %x; ", x.State(n, i), x.Sure(n, i))
		}
	}
	for _, token := range []string{"t", "u", "v", "w"} {
		r, ok := x.Fate(token)
		s += fmt.Sprintf("%+v %v; ", r, ok)
	}
	return s
}

// refuses holds that a call answers this error, and changes nothing.
func refuses(t *testing.T, x *tide.Tide, what string, call func() api.Errno, want api.Errno) {
	t.Helper()
	was := tell(x)
	if e := call(); e != want {
		t.Errorf("%s: error %d, want %d", what, e, want)
	}
	if is := tell(x); is != was {
		t.Errorf("%s: is %s, was %s", what, is, was)
	}
}

// setOf is the i-th set of a shard among so many.
func setOf(home, shards, i int) []api.Pair {
	for k := 0; ; k++ {
		if node.Home(fmt.Sprintf(`{a="%d"}`, k), shards) != home {
			continue
		}
		if i == 0 {
			return []api.Pair{{Name: "a", Value: fmt.Sprint(k)}}
		}
		i--
	}
}

// tokenOf is the i-th token of a shard among so many.
func tokenOf(home, shards, i int) string {
	for k := 0; ; k++ {
		token := fmt.Sprint("t", k)
		if node.Home(token, shards) != home {
			continue
		}
		if i == 0 {
			return token
		}
		i--
	}
}

// sample is a batch of one sample, which lies in a shard among so many.
func sample(home, shards int, time, num int64) []api.Write {
	return []api.Write{{Set: setOf(home, shards, 0), Time: time, Kind: api.Sample, Num: num}}
}

func TestP18_1New(t *testing.T) {
	members := map[[2]int][]int{
		{1, 0}: {0}, {1, 1}: {0}, {1, 2}: {0}, {1, 3}: {0},
		{2, 0}: {0, 1}, {2, 1}: {0, 1}, {2, 2}: {0, 1}, {2, 3}: {0, 1},
		{3, 0}: {0, 1, 2}, {3, 1}: {0, 1, 2}, {3, 2}: {0, 1, 2}, {3, 3}: {0, 1, 2},
		{4, 0}: {0, 1, 2}, {4, 1}: {1, 2, 3}, {4, 2}: {0, 2, 3}, {4, 3}: {0, 1, 3},
		{5, 0}: {0, 1, 2}, {5, 1}: {1, 2, 3}, {5, 2}: {2, 3, 4}, {5, 3}: {0, 3, 4},
		{6, 0}: {0, 1, 2}, {6, 1}: {1, 2, 3}, {6, 2}: {2, 3, 4}, {6, 3}: {3, 4, 5},
		{7, 0}: {0, 1, 2}, {7, 1}: {1, 2, 3}, {7, 2}: {2, 3, 4}, {7, 3}: {3, 4, 5},
		{8, 0}: {0, 1, 2}, {8, 1}: {1, 2, 3}, {8, 2}: {2, 3, 4}, {8, 3}: {3, 4, 5},
	}
	for nodes := 1; nodes <= 8; nodes++ {
		for shards := 1; shards <= 4; shards++ {
			c := conf(nodes, shards)
			x := newTide(t, c, 1<<20)
			if x.Len() != 0 || x.Config() != c {
				t.Errorf("%+v: %d on their way, %+v", c, x.Len(), x.Config())
			}
			for s := range shards {
				l := members[[2]int{nodes, s}]
				if v := x.View(s); !reflect.DeepEqual(v, view.View{Epoch: 1, Primary: l[0], Members: l}) {
					t.Errorf("%+v: the shard %d has %+v, want %v", c, s, v, l)
				}
			}
			wantNew(t, x)
		}
	}
}

// wantNew holds that all nodes run, and know of nothing.
func wantNew(t *testing.T, x *tide.Tide) {
	t.Helper()
	for n := range x.Config().Nodes {
		if !x.Up(n) {
			t.Errorf("%d doesn't run", n)
		}
		for s := range x.Config().Shards {
			if !reflect.DeepEqual(x.State(n, s), node.State{}) || len(x.Sure(n, s)) != 0 {
				t.Errorf("%d has of %d %+v, %x", n, s, x.State(n, s), x.Sure(n, s))
			}
		}
		if a, e := x.Ask(n, ask.Query{To: 9}, at(0, 0, 0)); e != api.OK || !reflect.DeepEqual(a, ask.Answer{}) {
			t.Errorf("%d tells %+v, error %d", n, a, e)
		}
		if _, e := x.Ask(n, ask.Query{To: 9}, at(0, 0, 1)); e != api.ErrWait {
			t.Errorf("%d: error %d", n, e)
		}
	}
}

func TestP18_1NewErrors(t *testing.T) {
	right := conf(3, 2)
	for _, x := range []struct {
		c    node.Config
		room int
		want api.Errno
	}{
		{node.Config{}, 1 << 20, api.ErrArg},
		{node.Config{Nodes: 0, Shards: 2, Patience: 5}, 1 << 20, api.ErrArg},
		{node.Config{Nodes: 9, Shards: 2, Patience: 5}, 1 << 20, api.ErrArg},
		{node.Config{Nodes: math.MinInt, Shards: 2, Patience: 5}, 1 << 20, api.ErrArg},
		{node.Config{Nodes: math.MaxInt, Shards: 2, Patience: 5}, 1 << 20, api.ErrArg},
		{node.Config{Nodes: 3, Shards: 0, Patience: 5}, 1 << 20, api.ErrArg},
		{node.Config{Nodes: 3, Shards: 5, Patience: 5}, 1 << 20, api.ErrArg},
		{node.Config{Nodes: 3, Shards: math.MaxInt, Patience: 5}, 1 << 20, api.ErrArg},
		{node.Config{Nodes: 3, Shards: 2, Offset: -1, Patience: 5}, 1 << 20, api.ErrArg},
		{node.Config{Nodes: 3, Shards: 2, Offset: maxOffset + 1, Patience: 5}, 1 << 20, api.ErrArg},
		{node.Config{Nodes: 3, Shards: 2, Patience: 0}, 1 << 20, api.ErrArg},
		{node.Config{Nodes: 3, Shards: 2, Patience: 1001}, 1 << 20, api.ErrArg},
		{node.Config{}, 0, api.ErrArg}, {node.Config{}, -1, api.ErrArg},
		{right, -1, api.ErrArg}, {right, math.MinInt, api.ErrArg}, {right, maxRoom + 1, api.ErrArg}, {right, math.MaxInt, api.ErrArg},
		// A log's first two frames have nine bytes each.
		{right, 0, api.ErrFull}, {right, 1, api.ErrFull}, {right, 17, api.ErrFull}, {conf(1, 1), 17, api.ErrFull},
	} {
		if got, e := tide.New(x.c, x.room); got != nil || e != x.want {
			t.Errorf("New(%+v, %d): %v, error %d, want %d", x.c, x.room, got, e, x.want)
		}
	}
	for _, room := range []int{18, maxRoom} {
		wantNew(t, newTide(t, right, room))
	}
	newTide(t, node.Config{Nodes: 8, Shards: 4, Offset: maxOffset, Patience: 1000}, 1<<20)
	newTide(t, node.Config{Nodes: 1, Shards: 1, Offset: 0, Patience: 1}, 1<<20)
}

// Each call of a nil tide answers ErrNil, whatever else is wrong, or nothing.
func TestP18_1Nil(t *testing.T) {
	var x *tide.Tide
	for what, call := range map[string]func() api.Errno{
		"Tick": func() api.Errno { return x.Tick(-1, -1) }, "Deliver": func() api.Errno { return x.Deliver(-1, -1) },
		"Lose": func() api.Errno { return x.Lose(-1) }, "Twice": func() api.Errno { return x.Twice(-1) },
		"Crash": func() api.Errno { return x.Crash(-1, nil) }, "Start": func() api.Errno { return x.Start(-1) }, "Fuse": func() api.Errno { return x.Fuse(-1, -1) },
		"Announce": func() api.Errno { return x.Announce(-1) }, "Change": func() api.Errno { return x.Change(-1, -1, nil) },
		"Submit": func() api.Errno { return x.Submit("", nil) }, "Order": func() api.Errno { return x.Order(-1, cell.Cmd{}) },
		"Ask": func() api.Errno { _, e := x.Ask(-1, ask.Query{}, api.Stamp{}); return e },
	} {
		refuses(t, x, what, call, api.ErrNil)
	}
	a, _ := x.Ask(0, ask.Query{}, api.Stamp{})
	r, ok := x.Fate("t")
	if x.Len() != 0 || !reflect.DeepEqual(x.View(0), view.View{}) || r != (cell.Reply{}) || ok || !reflect.DeepEqual(a, ask.Answer{}) ||
		x.Sure(0, 0) != nil || !reflect.DeepEqual(x.State(0, 0), node.State{}) || x.Up(0) || x.Config() != (node.Config{}) {
		t.Error("a nil tide tells something")
	}
}

// A tide that New didn't make only must end.
func TestP18_1NoTide(t *testing.T) {
	x := &tide.Tide{}
	x.Submit("t", sample(0, 1, 1, 1))
	x.Order(0, cell.Cmd{Kind: cut})
	x.Tick(0, 1)
	x.Deliver(0, 1)
	x.Lose(0)
	x.Twice(0)
	x.Crash(0, nil)
	x.Start(0)
	x.Fuse(0, 0)
	x.Announce(0)
	x.Change(0, 0, []int{0})
	x.Ask(0, ask.Query{}, api.Stamp{})
	x.View(0)
	x.Fate("t")
	x.Sure(0, 0)
	x.State(0, 0)
	if x.Len() != 0 || x.Up(0) {
		t.Error(x.Len(), x.Up(0))
	}
}

// Wherever a node is named, it must be there, and run.
func TestP18_1NodeErrors(t *testing.T) {
	x := led(t, conf(3, 2))
	calls := func(n int) map[string]func() api.Errno {
		return map[string]func() api.Errno{
			"Tick":  func() api.Errno { return x.Tick(n, -1) },
			"Crash": func() api.Errno { return x.Crash(n, nil) },
			"Fuse":  func() api.Errno { return x.Fuse(n, 0) },
			"Ask":   func() api.Errno { _, e := x.Ask(n, ask.Query{Op: 77}, at(-1, 0, 0)); return e },
		}
	}
	for _, n := range []int{-1, 3, 90, 91, math.MinInt, math.MaxInt} {
		for what, call := range calls(n) {
			refuses(t, x, fmt.Sprint(what, n), call, api.ErrArg)
		}
		refuses(t, x, fmt.Sprint("Start", n), func() api.Errno { return x.Start(n) }, api.ErrArg)
		if x.Up(n) || x.Sure(n, 0) != nil || !reflect.DeepEqual(x.State(n, 0), node.State{}) {
			t.Errorf("of %d something is told", n)
		}
	}
	for n := range 3 {
		refuses(t, x, fmt.Sprint("Start", n), func() api.Errno { return x.Start(n) }, api.ErrState)
	}
	want(t, "Crash", x.Crash(2, nil), api.OK)
	for what, call := range calls(2) {
		refuses(t, x, what, call, api.ErrState)
	}
	if x.Up(2) || x.Sure(2, 0) != nil || !reflect.DeepEqual(x.State(2, 0), node.State{}) {
		t.Error("of a node that doesn't run something is told")
	}
	for _, s := range []int{-1, 2, math.MinInt, math.MaxInt} {
		if x.Sure(0, s) != nil || !reflect.DeepEqual(x.State(0, s), node.State{}) {
			t.Errorf("of the shard %d something is told", s)
		}
	}
}

// What a Tick lets set out is sent, in order.
func TestP18_1Tick(t *testing.T) {
	x := newTide(t, conf(3, 1), 1<<20)
	want(t, "Tick of no view", x.Tick(0, 5), api.OK)
	if x.Len() != 0 {
		t.Fatalf("%d set out", x.Len())
	}
	want(t, "Announce", x.Announce(0), api.OK)
	flow(t, x, 5)
	want(t, "Tick of a member", x.Tick(1, 5), api.OK)
	if x.Len() != 0 {
		t.Fatalf("%d set out", x.Len())
	}
	// Offers to 1 and 2; the Ack of the first one alone is no leave to lead.
	want(t, "Tick", x.Tick(0, 5), api.OK)
	if x.Len() != 2 {
		t.Fatalf("%d set out, want two Offers", x.Len())
	}
	want(t, "Deliver", x.Deliver(1, 5), api.OK)
	want(t, "Deliver", x.Deliver(1, 5), api.OK)
	if x.State(0, 0).Active || x.Len() != 1 {
		t.Fatalf("%+v, %d on their way", x.State(0, 0), x.Len())
	}
	if x.State(1, 0).View.Epoch != 1 || x.State(2, 0).View.Epoch != 1 {
		t.Fatal("the view isn't held")
	}
	flow(t, x, 5)
	if !x.State(0, 0).Active {
		t.Fatalf("%+v", x.State(0, 0))
	}
}

// Also beside an error what a Tick lets set out is sent.
func TestP18_1TickErrors(t *testing.T) {
	x := led(t, conf(2, 1))
	for _, phys := range []int64{-1, math.MinInt64, maxWall + 1, math.MaxInt64} {
		want(t, "Tick", x.Tick(0, phys), api.ErrArg)
		if x.Len() == 0 {
			t.Errorf("Tick(%d): nothing set out", phys)
		}
		flow(t, x, 20)
		refuses(t, x, "Tick of a member", func() api.Errno { return x.Tick(1, phys) }, api.ErrArg)
	}
	// Of the last stamp there is none behind it.
	want(t, "Tick at the last Wall", x.Tick(1, maxWall), api.OK)
	want(t, "Crash", x.Crash(1, nil), api.OK)
	want(t, "Start", x.Start(1), api.OK)
	refuses(t, x, "Tick of no stamp", func() api.Errno { return x.Tick(1, maxWall) }, api.ErrOver)
}

// The i-th message is taken, and the others stay, in order.
func TestP18_1Deliver(t *testing.T) {
	x := newTide(t, conf(8, 1), 1<<20)
	want(t, "Announce", x.Announce(0), api.OK)
	left := []int{0, 1, 2, 3, 4, 5, 6, 7}
	for _, i := range []int{3, 0, 5, 1, 3, 1, 1, 0} {
		want(t, "Deliver", x.Deliver(i, 5), api.OK)
		left = slices.Delete(left, i, i+1)
		if x.Len() != len(left) {
			t.Fatalf("%d are on their way, want %d", x.Len(), len(left))
		}
		for n := range 8 {
			if has := x.State(n, 0).View.Epoch == 1; has == slices.Contains(left, n) {
				t.Fatalf("behind Deliver(%d) %d has the view: %v", i, n, has)
			}
		}
	}
}

func TestP18_1DeliverErrors(t *testing.T) {
	x := newTide(t, conf(3, 1), 1<<20)
	calls := func(i int) map[string]func() api.Errno {
		return map[string]func() api.Errno{
			"Deliver": func() api.Errno { return x.Deliver(i, -1) },
			"Lose":    func() api.Errno { return x.Lose(i) },
			"Twice":   func() api.Errno { return x.Twice(i) },
		}
	}
	for _, i := range []int{0, -1, 1, math.MinInt, math.MaxInt} {
		for what, call := range calls(i) {
			refuses(t, x, fmt.Sprint(what, i), call, api.ErrArg)
		}
	}
	want(t, "Announce", x.Announce(0), api.OK)
	for _, i := range []int{-1, 3, math.MinInt, math.MaxInt} {
		for what, call := range calls(i) {
			refuses(t, x, fmt.Sprint(what, i), call, api.ErrArg)
		}
	}
}

// A message that is refused is taken all the same.
func TestP18_1DeliverOfWhatIsRefused(t *testing.T) {
	c := conf(2, 2)
	x := led(t, c)
	// The primary of the token's shard is 0, and leads both: so only the other
	// one's clock meets the Prepare.
	want(t, "Change", x.Change(1, 1, []int{1}), api.OK)
	for i := range 5 {
		round(t, x, int64(20+i))
	}
	flow(t, x, 25)
	token := tokenOf(0, 2, 0)
	want(t, "Submit", x.Submit(token, sample(1, 2, 4, 7)), api.OK)
	flow(t, x, 25)
	want(t, "Tick", x.Tick(0, 1000), api.OK)
	refused := 0
	for n := x.Len(); n > 0; n-- {
		if e := x.Deliver(0, 500); e == api.ErrOffset {
			refused++
		} else if e != api.OK {
			t.Fatalf("Deliver: error %d", e)
		}
	}
	if refused != 1 || x.State(1, 1).Held != 0 {
		t.Errorf("%d were refused; %+v", refused, x.State(1, 1))
	}
	// A wrong reading is the node's to refuse, of a Prepare alone.
	flow(t, x, 1000)
	want(t, "Tick", x.Tick(0, 1001), api.OK)
	refused = 0
	for n := x.Len(); n > 0; n-- {
		switch e := x.Deliver(0, -1); e {
		case api.ErrArg:
			refused++
		case api.OK:
		default:
			t.Fatalf("Deliver: error %d", e)
		}
		if x.Len() < n-1 {
			t.Fatalf("%d are on their way", x.Len())
		}
	}
	if refused != 1 || x.State(1, 1).Held != 0 {
		t.Errorf("%d were refused; %+v", refused, x.State(1, 1))
	}
}

// What is for a node that doesn't run is lost, also if that runs later.
func TestP18_1DeliverToNobody(t *testing.T) {
	x := newTide(t, conf(3, 1), 1<<20)
	want(t, "Announce", x.Announce(0), api.OK)
	want(t, "Crash", x.Crash(1, nil), api.OK)
	for range 3 {
		want(t, "Deliver", x.Deliver(0, 5), api.OK)
	}
	want(t, "Start", x.Start(1), api.OK)
	if x.Len() != 0 || x.State(0, 0).View.Epoch != 1 || x.State(1, 0).View.Epoch != 0 || x.State(2, 0).View.Epoch != 1 {
		t.Errorf("%d on their way; %+v", x.Len(), x.State(1, 0))
	}
	// While it doesn't run a message may wait for it.
	want(t, "Announce", x.Announce(0), api.OK)
	want(t, "Crash", x.Crash(1, nil), api.OK)
	want(t, "Start", x.Start(1), api.OK)
	flow(t, x, 5)
	if x.State(1, 0).View.Epoch != 1 {
		t.Errorf("%+v", x.State(1, 0))
	}
}

// Who is primary must be safe, and who is tells the control by an Active.
func TestP18_1DeliverActive(t *testing.T) {
	x := newTide(t, conf(4, 1), 1<<20)
	want(t, "Change", x.Change(0, 0, []int{0, 3}), api.OK)
	unsafe := func() api.Errno { return x.Change(0, 3, []int{0, 3}) }
	refuses(t, x, "Change", unsafe, api.ErrView)
	rounds(t, x, 1, 5)
	refuses(t, x, "Change", unsafe, api.ErrView)
	// The Offer arrives, its Ack, and the primary is active.
	flow(t, x, 6)
	refuses(t, x, "Change", unsafe, api.ErrView)
	want(t, "Tick", x.Tick(0, 7), api.OK)
	if x.Len() == 0 {
		t.Fatal("no Active set out")
	}
	refuses(t, x, "Change", unsafe, api.ErrView)
	flow(t, x, 8)
	want(t, "Change behind an Active", unsafe(), api.OK)
}

// An Active of an epoch that is over makes nobody safe.
func TestP18_1DeliverLateActive(t *testing.T) {
	x := led(t, conf(4, 1))
	want(t, "Tick", x.Tick(0, 20), api.OK)
	late := x.Len()
	want(t, "Change", x.Change(0, 0, []int{0, 3}), api.OK)
	for range late {
		want(t, "Deliver", x.Deliver(0, 20), api.OK)
	}
	if e := x.Change(0, 3, []int{3}); e != api.ErrView {
		t.Errorf("Change: error %d", e)
	}
}

func TestP18_1Lose(t *testing.T) {
	x := newTide(t, conf(3, 1), 1<<20)
	want(t, "Announce", x.Announce(0), api.OK)
	want(t, "Lose", x.Lose(1), api.OK)
	if x.Len() != 2 {
		t.Fatalf("%d are on their way", x.Len())
	}
	flow(t, x, 5)
	if x.State(0, 0).View.Epoch != 1 || x.State(1, 0).View.Epoch != 0 || x.State(2, 0).View.Epoch != 1 {
		t.Errorf("%+v", x.State(1, 0))
	}
}

// A message is there once more, as the last one.
func TestP18_1Twice(t *testing.T) {
	x := newTide(t, conf(3, 1), 1<<20)
	want(t, "Announce", x.Announce(0), api.OK)
	want(t, "Twice", x.Twice(1), api.OK)
	if x.Len() != 4 {
		t.Fatalf("%d are on their way", x.Len())
	}
	want(t, "Lose", x.Lose(1), api.OK)
	for i, epoch := range []int{0, 0, 1} {
		want(t, "Deliver", x.Deliver(0, 5), api.OK)
		if x.State(1, 0).View.Epoch != epoch {
			t.Fatalf("behind %d messages %+v", i+1, x.State(1, 0))
		}
	}
}

// There is room for so many messages; those that find none are lost.
func TestP18_1Room(t *testing.T) {
	x := led(t, conf(3, 1))
	l := sample(0, 1, 1, 1)
	for x.Len() < maxQueue {
		want(t, "Submit", x.Submit("t", l), api.OK)
	}
	refuses(t, x, "Submit", func() api.Errno { return x.Submit("u", l) }, api.ErrFull)
	refuses(t, x, "Order", func() api.Errno { return x.Order(0, cell.Cmd{Kind: retain}) }, api.ErrFull)
	refuses(t, x, "Twice", func() api.Errno { return x.Twice(7) }, api.ErrFull)
	refuses(t, x, "Announce", func() api.Errno { return x.Announce(0) }, api.OK)
	want(t, "Tick", x.Tick(0, 20), api.OK)
	if x.Len() != maxQueue {
		t.Fatalf("%d are on their way", x.Len())
	}
	// Of what sets out at once the first ones find a place.
	for range 2 {
		want(t, "Lose", x.Lose(0), api.OK)
	}
	want(t, "Change", x.Change(0, 1, []int{1, 2}), api.OK)
	if x.Len() != maxQueue || x.View(0).Epoch != 2 {
		t.Fatalf("%d are on their way; %+v", x.Len(), x.View(0))
	}
	for range maxQueue {
		want(t, "Lose", x.Lose(0), api.OK)
		want(t, "Twice", x.Twice(0), api.OK)
		if x.Len() != maxQueue {
			t.Fatalf("%d are on their way", x.Len())
		}
	}
	for x.Len() > 0 {
		x.Deliver(x.Len()-1, 20)
	}
	for n, epoch := range []int{2, 2, 1} {
		if x.State(n, 0).View.Epoch != epoch {
			t.Errorf("%d has %+v", n, x.State(n, 0).View)
		}
	}
}

// The chapter's example.
func TestP18_1Example(t *testing.T) {
	x := newTide(t, conf(1, 1), 1<<20)
	want(t, "Announce", x.Announce(0), api.OK)
	want(t, "Deliver", x.Deliver(0, 1), api.OK)
	l := sample(0, 1, 4, 7)
	want(t, "Submit", x.Submit("t", l), api.OK)
	want(t, "Deliver", x.Deliver(0, 1), api.OK)
	rounds(t, x, 3, 1)
	flow(t, x, 4)
	want(t, "Submit", x.Submit("t", l), api.OK)
	want(t, "Deliver", x.Deliver(0, 4), api.OK)
	want(t, "Deliver", x.Deliver(0, 4), api.OK)
	if r, ok := x.Fate("t"); !ok || r.Err != api.OK || r.Deed != 1 || r.State != done || r.At.Mark != 1 {
		t.Errorf("%+v, %v", r, ok)
	}
}
