package tide_test

import (
	"reflect"
	"testing"

	"slackwater/api"
	"slackwater/ask"
	"slackwater/node"
)

// Tests of P18.2.

// What lasted is there behind a crash, and nothing of what a node only knew.
func TestP18_2Crash(t *testing.T) {
	x := led(t, conf(1, 1))
	want(t, "Submit", x.Submit("t", sample(0, 1, 4, 7)), api.OK)
	phys := rounds(t, x, 3, 20)
	was, sure := x.State(0, 0), x.Sure(0, 0)
	want(t, "Crash", x.Crash(0, nil), api.OK)
	if x.Up(0) || !reflect.DeepEqual(x.State(0, 0), node.State{}) || x.Sure(0, 0) != nil {
		t.Fatalf("%v, %+v", x.Up(0), x.State(0, 0))
	}
	want(t, "Tick", x.Tick(0, phys), api.ErrState)
	want(t, "Start", x.Start(0), api.OK)
	if is := x.State(0, 0); !x.Up(0) || !reflect.DeepEqual(is, was) || !reflect.DeepEqual(x.Sure(0, 0), sure) {
		t.Fatalf("%v, is %+v, was %+v", x.Up(0), is, was)
	}
	// The clock goes on behind its bound.
	if a, e := x.Ask(0, ask.Query{To: 9}, was.Closed); e != api.OK || len(a.Rows) != 1 {
		t.Errorf("%+v, error %d", a, e)
	}
	rounds(t, x, 1, phys)
	if x.State(0, 0).Closed.Wall < 1000 {
		t.Errorf("%+v", x.State(0, 0))
	}
}

// What isn't synced is kept as whoever calls picks.
func TestP18_2CrashKeeps(t *testing.T) {
	for _, k := range []struct {
		keep  []int
		epoch int
	}{{nil, 0}, {[]int{}, 0}, {[]int{0}, 0}, {[]int{-5}, 0}, {[]int{3}, 0}, {[]int{10000}, 1}, {[]int{10000, 7}, 1}} {
		x := newTide(t, conf(2, 1), 1<<20)
		want(t, "Announce", x.Announce(0), api.OK)
		want(t, "Fuse", x.Fuse(0, 1), api.OK)
		// The record is laid, and not synced.
		want(t, "Deliver", x.Deliver(0, 5), api.ErrDown)
		want(t, "Deliver", x.Deliver(0, 5), api.OK)
		want(t, "Crash", x.Crash(0, k.keep), api.OK)
		want(t, "Start", x.Start(0), api.OK)
		if s := x.State(0, 0); s.View.Epoch != k.epoch {
			t.Errorf("%v: %+v", k.keep, s)
		}
		if x.State(1, 0).View.Epoch != 1 {
			t.Errorf("%v: the other node has %+v", k.keep, x.State(1, 0))
		}
	}
}

// A node whose disk has failed is dead, and stops by Crash alone.
func TestP18_2Dead(t *testing.T) {
	x := led(t, conf(2, 1))
	want(t, "Fuse", x.Fuse(1, 0), api.OK)
	want(t, "Tick beyond the bound", x.Tick(1, 5000), api.ErrDown)
	if !x.Up(1) || !reflect.DeepEqual(x.State(1, 0), node.State{}) || x.Sure(1, 0) != nil {
		t.Errorf("%v, %+v", x.Up(1), x.State(1, 0))
	}
	refuses(t, x, "Tick", func() api.Errno { return x.Tick(1, 20) }, api.ErrDown)
	refuses(t, x, "Ask", func() api.Errno { _, e := x.Ask(1, ask.Query{Op: 77}, at(-1, 0, 0)); return e }, api.ErrDown)
	refuses(t, x, "Fuse", func() api.Errno { return x.Fuse(1, 9) }, api.ErrDown)
	refuses(t, x, "Start", func() api.Errno { return x.Start(1) }, api.ErrState)
	// What is for it is taken, and answered by its error.
	want(t, "Announce", x.Announce(0), api.OK)
	want(t, "Deliver", x.Deliver(1, 20), api.ErrDown)
	if x.Len() != 1 {
		t.Errorf("%d are on their way", x.Len())
	}
	want(t, "Crash", x.Crash(1, nil), api.OK)
	want(t, "Start", x.Start(1), api.OK)
	if x.State(1, 0).View.Epoch != 1 {
		t.Errorf("%+v", x.State(1, 0))
	}
	// There is no fuse any more.
	rounds(t, x, 20, 20)
}

// A fuse lets so many steps be done.
func TestP18_2Fuse(t *testing.T) {
	for steps, e := range []api.Errno{api.ErrDown, api.ErrDown, api.OK, api.OK} {
		x := newTide(t, conf(2, 1), 1<<20)
		want(t, "Announce", x.Announce(0), api.OK)
		want(t, "Fuse", x.Fuse(0, steps), api.OK)
		want(t, "Deliver", x.Deliver(0, 5), e)
		want(t, "Deliver to the other", x.Deliver(0, 5), api.OK)
	}
	x := newTide(t, conf(1, 1), 1<<20)
	want(t, "Announce", x.Announce(0), api.OK)
	want(t, "Fuse", x.Fuse(0, 0), api.OK)
	want(t, "Fuse of none", x.Fuse(0, -1), api.OK)
	flow(t, x, 5)
	rounds(t, x, 20, 5)
}

// A node that can't be made on its disk doesn't run.
func TestP18_2StartErrors(t *testing.T) {
	x := newTide(t, conf(1, 1), 300)
	want(t, "Announce", x.Announce(0), api.OK)
	flow(t, x, 5)
	for range 2 {
		want(t, "Tick", x.Tick(0, 5), api.OK)
	}
	// More than half of the disk is full, and behind what lasts is a tear: the
	// log must be laid anew, for which there is no room.
	want(t, "Fuse", x.Fuse(0, 1), api.OK)
	want(t, "Tick", x.Tick(0, 5), api.ErrDown)
	want(t, "Crash", x.Crash(0, []int{3}), api.OK)
	for range 2 {
		refuses(t, x, "Start", func() api.Errno { return x.Start(0) }, api.ErrFull)
	}
	if x.Up(0) {
		t.Error("it runs")
	}
	refuses(t, x, "Crash", func() api.Errno { return x.Crash(0, nil) }, api.ErrState)
}

// A full disk ends a node, which can be made anew.
func TestP18_2Full(t *testing.T) {
	x := newTide(t, conf(1, 1), 500)
	want(t, "Announce", x.Announce(0), api.OK)
	flow(t, x, 5)
	var e api.Errno
	for n := 0; e == api.OK && n < 100; n++ {
		e = x.Tick(0, 5)
	}
	want(t, "Tick", e, api.ErrFull)
	want(t, "Tick", x.Tick(0, 5), api.ErrFull)
	want(t, "Start", x.Start(0), api.ErrState)
	want(t, "Crash", x.Crash(0, nil), api.OK)
	want(t, "Start", x.Start(0), api.OK)
	if x.State(0, 0).View.Epoch != 1 {
		t.Errorf("%+v", x.State(0, 0))
	}
}

// What was handed in isn't changed.
func TestP18_2KeepIsNotChanged(t *testing.T) {
	x := led(t, conf(1, 1))
	keep := []int{5, -1, 9, 4}
	want(t, "Crash", x.Crash(0, keep[:2]), api.OK)
	if !reflect.DeepEqual(keep, []int{5, -1, 9, 4}) {
		t.Error(keep)
	}
}
