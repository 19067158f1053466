package cell

import (
	"testing"

	"slackwater/api"
)

func crowd(from, n int) []api.Write {
	var l []api.Write
	for i := range n {
		l = append(l, api.Write{Time: int64(from + i), Kind: api.Sample})
	}
	return l
}

// As many deeds as there may be have just so many writes as the store has room
// for, so that no commands lead there: the store is filled from within.
func TestP14_1PrepareErrFullOfTheStore(t *testing.T) {
	for _, held := range []int{0, 1, 7, 64} {
		c, _ := New(0)
		if held > 0 {
			c.Do(Cmd{Kind: Prepare, Deed: 1, At: api.Stamp{Wall: 5}, Writes: crowd(0, held)})
		}
		c.Do(Cmd{Kind: Resolve, Deed: 2})
		for left := 66; left >= 0; left-- {
			fill(t, c, api.MaxPoints-held-left)
			for n := 1; n <= api.MaxWrites; n++ {
				want := Reply{Err: api.ErrFull}
				if n <= left {
					want = Reply{Deed: 3, State: Open, At: api.Stamp{Wall: 5, Mark: 3}}
				}
				if r := c.Do(Cmd{Kind: Prepare, Deed: 3, At: api.Stamp{Wall: 5}, Writes: crowd(0, n)}); r != want {
					t.Fatalf("Prepare of %d writes, %d held, room for %d: %+v, want %+v", n, held, left, r, want)
				}
				delete(c.deeds, 3)
			}
		}
	}
}

// fill puts to a cell's store until it has so many versions.
func fill(t *testing.T, c *Cell, n int) {
	t.Helper()
	for i := c.store.Len(); i < n; i++ {
		if e := c.store.Put(api.Write{Time: int64(i), Kind: api.Sample}, api.Stamp{Mark: 9}); e != api.OK {
			t.Fatalf("Put: error %d", e)
		}
	}
}

// What is held finds room, to the last write; what was laid down is counted
// once, what was dropped isn't.
func TestP14_1ResolveOfAFullStore(t *testing.T) {
	c, _ := New(0)
	fill(t, c, api.MaxPoints-10)
	at := api.Stamp{Wall: 5}
	for deed, n := range []int{4, 5, 6, 5, 1, 1} {
		c.Do(Cmd{Kind: Prepare, Deed: uint32(deed + 1), At: at, Writes: crowd(100000, n)})
		if deed == 1 { // of 4 and 5, and 1 is left
			c.Do(Cmd{Kind: Resolve, Deed: 2})
		}
	}
	if l := c.Held(); len(l) != 2 || l[0] != 1 || l[1] != 3 {
		t.Fatalf("Held: %v", l)
	}
	c.Do(Cmd{Kind: Resolve, Deed: 1, Yes: true, At: api.Stamp{Wall: 5, Mark: 1}})
	if r := c.Do(Cmd{Kind: Prepare, Deed: 9, At: at, Writes: crowd(0, 1)}); r.Err != api.ErrFull {
		t.Errorf("Prepare of one write more: %+v", r)
	}
	c.Do(Cmd{Kind: Resolve, Deed: 3, Yes: true, At: api.Stamp{Wall: 5, Mark: 3}})
	if c.store.Len() != api.MaxPoints {
		t.Errorf("the store has %d versions", c.store.Len())
	}
	c.Do(Cmd{Kind: Retain, N: 50000})
	if r := c.Do(Cmd{Kind: Prepare, Deed: 9, At: at, Writes: crowd(0, 64)}); r.Err != api.OK {
		t.Errorf("Prepare behind a Retain: %+v", r)
	}
}

// What nobody can read any more is gone from the store, though no answer hangs
// on that.
func TestP14_1CutAndRetainOfTheStore(t *testing.T) {
	c, _ := New(0)
	for deed := uint32(1); deed <= 3; deed++ {
		c.Do(Cmd{Kind: Prepare, Deed: deed, At: api.Stamp{Wall: 5}, Writes: crowd(0, 9)})
		c.Do(Cmd{Kind: Resolve, Deed: deed, Yes: true, At: api.Stamp{Wall: 5, Mark: deed}})
	}
	c.Do(Cmd{Kind: Close, At: api.Stamp{Wall: 5}})
	for _, step := range []struct {
		m    Cmd
		want int
	}{
		{Cmd{Kind: Cut, At: api.Stamp{Wall: 5, Mark: 1}}, 27}, {Cmd{Kind: Cut, At: api.Stamp{Wall: 6}}, 27}, {Cmd{Kind: Cut, At: api.Stamp{Wall: 5, Mark: 2}}, 18},
		{Cmd{Kind: Retain, N: 4}, 10}, {Cmd{Kind: Retain, N: 3}, 10}, {Cmd{Kind: Cut, At: api.Stamp{Wall: 5, Mark: 9}}, 5}, {Cmd{Kind: Retain, N: 9}, 0},
	} {
		c.Do(step.m)
		if n := c.store.Len(); n != step.want {
			t.Errorf("behind %+v the store has %d versions, want %d", step.m, n, step.want)
		}
	}
}

// Of deeds that aren't open no writes are kept, of pins that are over nothing,
// as no answer hangs on them; nor of commands that are refused.
func TestP14_1NothingIsKeptOfWhatIsOver(t *testing.T) {
	c, _ := New(0)
	l := crowd(0, 3)
	for deed := range uint32(3) {
		c.Do(Cmd{Kind: Prepare, Deed: deed + 1, At: api.Stamp{Wall: 5}, Writes: l})
	}
	c.Do(Cmd{Kind: Resolve, Deed: 1, Yes: true, At: api.Stamp{Wall: 5, Mark: 1}})
	c.Do(Cmd{Kind: Resolve, Deed: 2})
	c.Do(Cmd{Kind: Resolve, Deed: 4})
	for deed, want := range []int{0, 0, 0, 3, 0} {
		if n := len(c.deeds[uint32(deed)].writes); n != want {
			t.Errorf("of the deed %d %d writes are kept, want %d", deed, n, want)
		}
	}
	for id := range 5 {
		c.Do(Cmd{Kind: Pin, Id: id, N: int64(id + 1)})
	}
	c.Do(Cmd{Kind: Pin, Id: 9, N: 0})
	c.Do(Cmd{Kind: Prepare, Deed: 9, Writes: l, At: api.Stamp{Wall: -1}})
	c.Do(Cmd{Kind: Resolve, Deed: 9, Yes: true})
	for left := 5; left >= 0; left-- {
		if len(c.pins) != left {
			t.Errorf("behind %d ticks %d pins are kept", c.ticks, len(c.pins))
		}
		c.Do(Cmd{Kind: Tick})
	}
	if len(c.deeds) != 4 {
		t.Errorf("%d deeds are kept", len(c.deeds))
	}
}
