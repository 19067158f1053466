package view_test

import (
	"math"
	"reflect"
	"slices"
	"testing"

	"slackwater/api"
	"slackwater/view"
)

// The limits stand here as numbers, so that the tests hold them, too.
const (
	maxWall  = 1 << 62
	maxNodes = 8
)

func nodes(l ...int) []int { return l }

func make1(t *testing.T, members ...int) *view.Control {
	t.Helper()
	c, e := view.New(members)
	if c == nil || e != api.OK {
		t.Fatalf("New(%v): %v, error %d", members, c, e)
	}
	return c
}

func sameView(a, b view.View) bool {
	return a.Epoch == b.Epoch && a.Primary == b.Primary && slices.Equal(a.Members, b.Members)
}

func isZero(v view.View) bool { return v.Epoch == 0 && v.Primary == 0 && len(v.Members) == 0 }

// wantState holds what a control tells of itself.
func wantState(t *testing.T, c *view.Control, v view.View, safe ...int) {
	t.Helper()
	if got := c.Now(); !sameView(got, v) {
		t.Errorf("Now: %v, want %v", got, v)
	}
	if got := c.Safe(); !slices.Equal(got, safe) {
		t.Errorf("Safe: %v, want %v", got, safe)
	}
}

// change holds that a view is picked; it is the one of the epoch.
func change(t *testing.T, c *view.Control, epoch, primary int, members ...int) {
	t.Helper()
	want := view.View{Epoch: epoch, Primary: primary, Members: members}
	if v, e := c.Change(primary, members); e != api.OK || !sameView(v, want) {
		t.Errorf("Change(%d, %v): %v, error %d, want %v", primary, members, v, e, want)
	}
	if v := c.Now(); !sameView(v, want) {
		t.Errorf("Now behind Change(%d, %v): %v, want %v", primary, members, v, want)
	}
}

// refuse holds that a view isn't picked, and that nothing is another one then.
func refuse(t *testing.T, c *view.Control, want api.Errno, primary int, members ...int) {
	t.Helper()
	now, safe := c.Now(), c.Safe()
	if v, e := c.Change(primary, members); e != want || !isZero(v) {
		t.Errorf("Change(%d, %v): %v, error %d, want error %d", primary, members, v, e, want)
	}
	wantState(t, c, now, safe...)
}

// active holds an Active's answer and who is safe then; the view stays.
func active(t *testing.T, c *view.Control, epoch int, want api.Errno, safe ...int) {
	t.Helper()
	now := c.Now()
	if e := c.Active(epoch); e != want {
		t.Errorf("Active(%d): error %d, want %d", epoch, e, want)
	}
	wantState(t, c, now, safe...)
}

// lists are all lists of so many numbers from low to high.
func lists(n, low, high int) [][]int {
	all := [][]int{nil}
	for range n {
		var longer [][]int
		for _, l := range all {
			for x := low; x <= high; x++ {
				longer = append(longer, append(slices.Clone(l), x))
			}
		}
		all = longer
	}
	return all
}

// ofMask are the nodes whose bits are set, rising.
func ofMask(m int) []int {
	var l []int
	for n := range maxNodes {
		if m>>n&1 == 1 {
			l = append(l, n)
		}
	}
	return l
}

// wrongMembers are lists that can't be the members of a view.
func wrongMembers() [][]int {
	return [][]int{
		nil, {}, {-1}, {8}, {9}, {math.MinInt}, {math.MaxInt}, {1, 0}, {0, 0}, {7, 7}, {0, 1, 1}, {0, 2, 1}, {1, 2, 0}, {0, 1, 8}, {-1, 0, 1},
		{0, -1}, {0, math.MinInt}, {0, math.MaxInt}, {math.MinInt, 0}, {3, 8, 4}, {0, 1, 2, 3, 4, 5, 6, 7, 8}, {0, 1, 2, 3, 4, 5, 6, 7, 7}, {0, 1, 2, 3, 4, 5, 6, 6},
		make([]int, 100000),
	}
}

// mayBe is what P15.1 asks of members, told in another way: the list is that
// of all its own nodes.
func mayBe(l []int) bool {
	m := 0
	for _, n := range l {
		if n < 0 || n >= maxNodes {
			return false
		}
		m |= 1 << n
	}
	return len(l) > 0 && slices.Equal(l, ofMask(m))
}

func TestP15_1Right(t *testing.T) {
	for _, v := range []view.View{
		{1, 0, nodes(0)}, {1, 7, nodes(7)}, {1, 1, nodes(0, 1, 2)}, {2, 7, nodes(0, 7)}, {maxWall - 1, 3, nodes(3, 4)}, {maxWall, 3, nodes(3, 4)},
		{1, 5, nodes(0, 1, 2, 3, 4, 5, 6, 7)}, {1000, 2, nodes(2, 4, 6)},
	} {
		if !view.Right(v) {
			t.Errorf("Right(%v): false", v)
		}
	}
	for _, v := range []view.View{
		{}, {1, 0, nil}, {1, 0, nodes()}, {0, 0, nodes(0)}, {-1, 0, nodes(0)}, {math.MinInt, 0, nodes(0)}, {maxWall + 1, 0, nodes(0)}, {math.MaxInt, 0, nodes(0)},
		{1, 1, nodes(0)}, {1, -1, nodes(0)}, {1, 1, nodes(0, 2)}, {1, 3, nodes(0, 2)}, {1, math.MinInt, nodes(0)}, {1, math.MaxInt, nodes(0)},
		{1, -1, nodes(-1)}, {1, -1, nodes(-1, 0)}, {1, 0, nodes(-1, 0)}, {1, 8, nodes(8)}, {1, 0, nodes(0, 8)}, {1, 0, nodes(0, 0)}, {1, 0, nodes(1, 0)},
		{1, 0, nodes(0, 1, 2, 3, 4, 5, 6, 7, 8)}, {1, 0, nodes(0, 1, 2, 2)}, {1, 0, nodes(0, 3, 2)}, {1, 0, nodes(0, 1, math.MaxInt)}, {1, 0, nodes(math.MinInt, 0)},
	} {
		if view.Right(v) {
			t.Errorf("Right(%v): true", v)
		}
	}
	for _, l := range wrongMembers() {
		for _, primary := range append(nodes(-1, 0, 7, 8), l[:min(len(l), 9)]...) {
			if v := (view.View{Epoch: 1, Primary: primary, Members: l}); view.Right(v) {
				t.Errorf("Right(%v): true", v)
			}
		}
	}
}

func TestP15_1RightOfAllSmallLists(t *testing.T) {
	for n := range 4 {
		for _, l := range lists(n, -1, 8) {
			for primary := -1; primary <= 8; primary++ {
				want := mayBe(l) && slices.Contains(l, primary)
				for _, epoch := range []int{0, 1, maxWall, maxWall + 1} {
					v := view.View{Epoch: epoch, Primary: primary, Members: l}
					if got := view.Right(v); got != (want && epoch > 0 && epoch <= maxWall) {
						t.Fatalf("Right(%v): %v", v, got)
					}
				}
			}
		}
	}
}

func TestP15_1New(t *testing.T) {
	for m := 1; m < 1<<maxNodes; m++ {
		l := ofMask(m)
		wantState(t, make1(t, l...), view.View{Epoch: 1, Primary: l[0], Members: l}, l...)
		for primary := -1; primary <= 8; primary++ {
			v := view.View{Epoch: 1, Primary: primary, Members: l}
			if got := view.Right(v); got != slices.Contains(l, primary) {
				t.Errorf("Right(%v): %v", v, got)
			}
		}
	}
}

func TestP15_1NewErrors(t *testing.T) {
	l := wrongMembers()
	for n := range 4 {
		l = append(l, lists(n, -1, 8)...)
	}
	for _, members := range l {
		if mayBe(members) {
			continue
		}
		if c, e := view.New(members); c != nil || e != api.ErrArg {
			t.Errorf("New(%v): %v, error %d, want ErrArg", members, c, e)
		}
	}
}

// Asked twice, a control tells the same.
func TestP15_1NowAndSafe(t *testing.T) {
	c := make1(t, 2, 5)
	for range 3 {
		wantState(t, c, view.View{Epoch: 1, Primary: 2, Members: nodes(2, 5)}, 2, 5)
	}
	change(t, c, 2, 5, 5, 6)
	for range 3 {
		wantState(t, c, view.View{Epoch: 2, Primary: 5, Members: nodes(5, 6)}, 5)
	}
}

func TestP15_1NilControl(t *testing.T) {
	var c *view.Control
	wantState(t, c, view.View{})
	for _, epoch := range []int{math.MinInt, -1, 0, 1, 2, maxWall, math.MaxInt} {
		active(t, c, epoch, api.ErrNil)
	}
	refuse(t, c, api.ErrNil, 0, 0)
	refuse(t, c, api.ErrNil, 0)
	refuse(t, c, api.ErrNil, -1, 1, 0)
}

// A control that didn't come out of New: no call panics.
func TestP15_1ControlOfItsOwn(t *testing.T) {
	var c view.Control
	c.Now()
	c.Safe()
	for n := -1; n <= 8; n++ {
		c.Change(n, nodes(n))
		c.Active(n)
	}
	c.Change(0, nil)
}

func TestP15_2Example(t *testing.T) {
	c := make1(t, 0, 1, 2)
	change(t, c, 2, 1, 1, 3)
	wantState(t, c, view.View{Epoch: 2, Primary: 1, Members: nodes(1, 3)}, 1)
	refuse(t, c, api.ErrView, 3, 1, 3)
	active(t, c, 2, api.OK, 1, 3)
	change(t, c, 3, 3, 0, 3)
	wantState(t, c, view.View{Epoch: 3, Primary: 3, Members: nodes(0, 3)}, 3)
}

// Any node that is safe may be the primary, not the first member alone; with
// the same members too, which is a view of its own.
func TestP15_2ChangePrimary(t *testing.T) {
	c := make1(t, 0, 3, 7)
	epoch := 1
	for range 2 {
		for _, primary := range nodes(7, 3, 3, 0) {
			epoch++
			change(t, c, epoch, primary, 0, 3, 7)
			wantState(t, c, c.Now(), 0, 3, 7)
		}
	}
}

// Who is a member again, but was none, isn't safe until the view is active.
func TestP15_2ChangeSafe(t *testing.T) {
	c := make1(t, 0, 1, 2)
	change(t, c, 2, 0, 0, 1)
	wantState(t, c, c.Now(), 0, 1)
	change(t, c, 3, 1, 0, 1, 2)
	wantState(t, c, c.Now(), 0, 1)
	refuse(t, c, api.ErrView, 2, 0, 1, 2)
	change(t, c, 4, 1, 1, 2)
	wantState(t, c, c.Now(), 1)
	active(t, c, 3, api.OK, 1)
	refuse(t, c, api.ErrView, 0, 0, 1, 2)
	refuse(t, c, api.ErrView, 2, 1, 2)
	active(t, c, 4, api.OK, 1, 2)
	change(t, c, 5, 2, 0, 2, 3, 7)
	wantState(t, c, c.Now(), 2)
	active(t, c, 5, api.OK, 0, 2, 3, 7)
	change(t, c, 6, 7, 7)
	wantState(t, c, c.Now(), 7)
}

// Of the errors of Change the first one that applies is told.
func TestP15_2ChangeErrors(t *testing.T) {
	c := make1(t, 0, 1, 2)
	change(t, c, 2, 1, 1, 3, 4)
	for _, l := range wrongMembers() {
		for _, primary := range nodes(math.MinInt, -1, 0, 1, 3, 7, 8, math.MaxInt) {
			refuse(t, c, api.ErrArg, primary, l...)
		}
	}
	for _, primary := range nodes(math.MinInt, -1, 0, 2, 3, 5, 7, 8, 9, math.MaxInt) {
		refuse(t, c, api.ErrArg, primary, 1, 4)
	}
	refuse(t, c, api.ErrArg, 1, 0, 2, 3) // it is safe, but none of these
	for _, primary := range nodes(0, 2, 3, 4, 5, 6, 7) {
		refuse(t, c, api.ErrView, primary, 0, 1, 2, 3, 4, 5, 6, 7)
		refuse(t, c, api.ErrView, primary, primary)
	}
	change(t, c, 3, 1, 1, 3, 4)
	active(t, c, 3, api.OK, 1, 3, 4)
	refuse(t, c, api.ErrView, 0, 0, 1, 3, 4)
	change(t, c, 4, 4, 0, 4)
}

func TestP15_2Active(t *testing.T) {
	c := make1(t, 0, 1, 2)
	active(t, c, 1, api.OK, 0, 1, 2)
	change(t, c, 2, 1, 1, 5)
	change(t, c, 3, 1, 1, 6)
	for _, epoch := range nodes(1, 2, 1) {
		active(t, c, epoch, api.OK, 1)
	}
	for _, epoch := range nodes(math.MinInt, -3, -1, 0, 4, 5, maxWall, maxWall+1, math.MaxInt) {
		active(t, c, epoch, api.ErrArg, 1)
	}
	for range 2 {
		active(t, c, 3, api.OK, 1, 6)
	}
	active(t, c, 4, api.ErrArg, 1, 6)
	change(t, c, 4, 6, 0, 6)
	active(t, c, 3, api.OK, 6)
	active(t, c, 4, api.OK, 0, 6)
}

// What is handed in is neither changed nor kept, nor is the room behind it.
func TestP15_2HandedIn(t *testing.T) {
	room := nodes(0, 1, 2, 3, 4, 5)
	c := make1(t, room[1:4]...)
	if v, e := c.Change(2, room[2:5]); e != api.OK {
		t.Fatalf("Change: %v, error %d", v, e)
	}
	c.Active(2)
	c.Change(3, room[:4:4])
	if !slices.Equal(room, nodes(0, 1, 2, 3, 4, 5)) {
		t.Errorf("what was handed in: %v", room)
	}
	for i := range room {
		room[i] = 9
	}
	wantState(t, c, view.View{Epoch: 3, Primary: 3, Members: nodes(0, 1, 2, 3)}, 2, 3)

	members := nodes(4, 5)
	c = make1(t, members...)
	members[0], members[1] = 9, 9
	wantState(t, c, view.View{Epoch: 1, Primary: 4, Members: nodes(4, 5)}, 4, 5)
}

// What is handed out is new memory, its spare room too.
func TestP15_2HandedOut(t *testing.T) {
	c := make1(t, 0, 1, 2)
	v, _ := c.Change(1, nodes(1, 2, 3))
	for epoch := 2; epoch < 5; epoch++ {
		now, safe := c.Now(), c.Safe()
		want, wantSafe := slices.Clone(now.Members), slices.Clone(safe)
		for _, l := range [][]int{v.Members, now.Members, safe} {
			l = l[:cap(l)]
			for i := range l {
				l[i] = 9
			}
			wantState(t, c, view.View{Epoch: epoch, Primary: 1, Members: want}, wantSafe...)
		}
		c.Active(epoch)
		wantState(t, c, view.View{Epoch: epoch, Primary: 1, Members: want}, want...)
		now, safe = c.Now(), c.Safe()
		v, _ = c.Change(1, nodes(0, 1, epoch, 7))
		if !slices.Equal(now.Members, want) || !slices.Equal(safe, want) {
			t.Errorf("what was handed out is now %v, %v, was %v", now, safe, want)
		}
	}
}

// Controls know nothing of one another.
func TestP15_2ControlsAreApart(t *testing.T) {
	b, c := make1(t, 0, 1), make1(t, 0, 1)
	change(t, b, 2, 1, 1, 2)
	wantState(t, c, view.View{Epoch: 1, Primary: 0, Members: nodes(0, 1)}, 0, 1)
	change(t, c, 2, 0, 0, 3)
	active(t, c, 2, api.OK, 0, 3)
	wantState(t, b, view.View{Epoch: 2, Primary: 1, Members: nodes(1, 2)}, 1)
}

// Beside an error all else is zero.
func TestP15_2ZeroBesideAnError(t *testing.T) {
	c := make1(t, 0, 1)
	for _, call := range []func() (view.View, api.Errno){
		func() (view.View, api.Errno) { return (*view.Control)(nil).Change(0, nodes(0)) },
		func() (view.View, api.Errno) { return c.Change(2, nodes(0)) },
		func() (view.View, api.Errno) { return c.Change(2, nodes(2)) },
	} {
		if v, e := call(); e == api.OK || !reflect.DeepEqual(v, view.View{}) {
			t.Errorf("%v, error %d", v, e)
		}
	}
}
