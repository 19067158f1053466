package view_test

import (
	"slices"
	"testing"

	"slackwater/api"
	"slackwater/view"
)

// Tests of P15.4: controls by all calls from all states that there are among
// few nodes, and by random calls among all nodes, held against a model.

// dice throws the same numbers in each run.
type dice uint64

func (d *dice) next() uint64 {
	*d = *d*6364136223846793005 + 1442695040888963407
	x := uint64(*d)
	return x ^ x>>29
}

func (d *dice) below(n int) int { return int(d.next() >> 8 % uint64(n)) }

// holds is what a control has, but for the epoch; nodes are bits.
type holds struct{ primary, members, safe int }

// call is a Change, or an Active of the control's epoch.
type call struct {
	isActive         bool
	primary, members int
}

// after is what a control has behind a call, and what that answers.
func (h holds) after(x call) (holds, api.Errno) {
	if x.isActive {
		h.safe = h.members
		return h, api.OK
	}
	if x.members>>x.primary&1 == 0 {
		return h, api.ErrArg
	}
	if h.safe>>x.primary&1 == 0 {
		return h, api.ErrView
	}
	return holds{x.primary, x.members, h.safe & x.members}, api.OK
}

func wantHolds(t *testing.T, c *view.Control, epoch int, h holds) {
	t.Helper()
	v, safe := c.Now(), c.Safe()
	want := view.View{Epoch: epoch, Primary: h.primary, Members: ofMask(h.members)}
	if !sameView(v, want) || !slices.Equal(safe, ofMask(h.safe)) {
		t.Fatalf("%v, safe %v, want %v, safe %v", v, safe, want, ofMask(h.safe))
	}
	if !view.Right(v) || !slices.Contains(safe, v.Primary) {
		t.Fatalf("the view %v, safe %v", v, safe)
	}
	for _, n := range safe {
		if !slices.Contains(v.Members, n) {
			t.Fatalf("%d is safe, but no member of %v", n, v)
		}
	}
}

// do does a call with a control, holds what it answers, and is what it has.
func do(t *testing.T, c *view.Control, epoch int, h holds, x call) (int, holds) {
	t.Helper()
	next, want := h.after(x)
	if x.isActive {
		if e := c.Active(epoch); e != want {
			t.Fatalf("Active(%d): error %d", epoch, e)
		}
		return epoch, next
	}
	v, e := c.Change(x.primary, ofMask(x.members))
	if e == api.OK {
		epoch++
	}
	if e != want || e == api.OK && !sameView(v, c.Now()) || e != api.OK && !isZero(v) {
		t.Fatalf("%+v: Change(%d, %v): %v, error %d, want error %d", h, x.primary, ofMask(x.members), v, e, want)
	}
	return epoch, next
}

// calls are all calls of some nodes.
func calls(n int) []call {
	l := []call{{isActive: true}}
	for members := range 1 << n {
		for primary := range n {
			l = append(l, call{primary: primary, members: members})
		}
	}
	return l
}

// replay is a control behind some calls.
func replay(t *testing.T, first int, path []call) (*view.Control, int, holds) {
	t.Helper()
	c := make1(t, ofMask(first)...)
	epoch, h := 1, holds{ofMask(first)[0], first, first}
	for _, x := range path {
		epoch, h = do(t, c, epoch, h, x)
	}
	return c, epoch, h
}

func TestP15_4AllStatesOfFourNodes(t *testing.T) {
	const n = 4
	type place struct {
		first int
		path  []call
	}
	var work []place
	for first := 1; first < 1<<n; first++ {
		work = append(work, place{first: first})
	}
	seen := map[holds]bool{}
	for len(work) > 0 {
		p := work[0]
		work = work[1:]
		c, epoch, h := replay(t, p.first, p.path)
		wantHolds(t, c, epoch, h)
		if seen[h] {
			continue
		}
		seen[h] = true
		for _, x := range calls(n) {
			c, epoch, next := replay(t, p.first, append(slices.Clone(p.path), x))
			wantHolds(t, c, epoch, next)
			if !seen[next] {
				work = append(work, place{p.first, append(slices.Clone(p.path), x)})
			}
		}
	}
	// The primary is a safe member; each other node is safe, a member, or none.
	if want := n * 3 * 3 * 3; len(seen) != want {
		t.Errorf("%d states, want %d", len(seen), want)
	}
}

func TestP15_4RandomCalls(t *testing.T) {
	for seed := range 300 {
		d := dice(seed)
		c, epoch, h := replay(t, 1+d.below(1<<maxNodes-1), nil)
		for range 300 {
			switch d.below(8) {
			case 0:
				epoch, h = do(t, c, epoch, h, call{isActive: true})
			case 1:
				if old := 1 + d.below(epoch); old < epoch {
					active(t, c, old, api.OK, ofMask(h.safe)...)
				}
			case 2:
				active(t, c, epoch+1+d.below(9), api.ErrArg, ofMask(h.safe)...)
				active(t, c, -d.below(9), api.ErrArg, ofMask(h.safe)...)
			default:
				epoch, h = do(t, c, epoch, h, call{primary: d.below(maxNodes), members: d.below(1 << maxNodes)})
			}
			wantHolds(t, c, epoch, h)
		}
	}
}

// What a control answers hangs on what was done to it alone: two of them, by
// the same calls, tell the same; a view that was told stays as it was told.
func TestP15_4ToldStays(t *testing.T) {
	d := dice(7)
	b, c := make1(t, ofMask(255)...), make1(t, ofMask(255)...)
	var told, kept []view.View
	for range 2000 {
		if d.below(3) == 0 {
			b.Active(b.Now().Epoch)
			c.Active(c.Now().Epoch)
		}
		primary, members := d.below(maxNodes), ofMask(d.below(1<<maxNodes))
		v, e := b.Change(primary, members)
		w, f := c.Change(primary, members)
		if e != f || !sameView(v, w) || !slices.Equal(b.Safe(), c.Safe()) {
			t.Fatalf("Change(%d, %v): %v, error %d, and %v, error %d", primary, members, v, e, w, f)
		}
		told = append(told, v, b.Now())
		for _, x := range []view.View{w, c.Now()} {
			x.Members = slices.Clone(x.Members)
			kept = append(kept, x)
		}
	}
	for i, v := range told {
		if !sameView(v, kept[i]) {
			t.Fatalf("what was told is now %v, was %v", v, kept[i])
		}
	}
}
