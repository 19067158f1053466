package tide_test

import (
	"reflect"
	"testing"

	"slackwater/api"
)

// Tests of P18.3.

// A view is told to each node, in order.
func TestP18_3Announce(t *testing.T) {
	x := newTide(t, conf(5, 2), 1<<20)
	want(t, "Announce", x.Announce(1), api.OK)
	if x.Len() != 5 {
		t.Fatalf("%d are on their way", x.Len())
	}
	for n := range 5 {
		want(t, "Deliver", x.Deliver(0, 5), api.OK)
		for m := range 5 {
			if v := x.State(m, 1).View; m <= n && !reflect.DeepEqual(v, x.View(1)) || m > n && v.Epoch != 0 {
				t.Errorf("behind %d messages %d has %+v", n+1, m, v)
			}
			if x.State(m, 0).View.Epoch != 0 {
				t.Errorf("%d has a view of the shard 0", m)
			}
		}
	}
	// Whoever doesn't run is told, too: it may run when that arrives.
	want(t, "Crash", x.Crash(2, nil), api.OK)
	want(t, "Announce", x.Announce(0), api.OK)
	if x.Len() != 5 {
		t.Errorf("%d are on their way", x.Len())
	}
}

func TestP18_3AnnounceErrors(t *testing.T) {
	x := newTide(t, conf(3, 2), 1<<20)
	for _, s := range []int{-1, 2, 1 << 62, -1 << 63} {
		refuses(t, x, "Announce", func() api.Errno { return x.Announce(s) }, api.ErrArg)
		if v := x.View(s); v.Epoch != 0 || v.Primary != 0 || v.Members != nil {
			t.Errorf("the shard %d has %+v", s, v)
		}
	}
}

// Another view holds, and is told; a late one of an earlier epoch changes
// nothing.
func TestP18_3Change(t *testing.T) {
	x := newTide(t, conf(4, 2), 1<<20)
	want(t, "Announce", x.Announce(0), api.OK)
	members := []int{1, 3, 9}
	want(t, "Change", x.Change(0, 1, members[:2]), api.OK)
	if members[2] != 9 {
		t.Error(members)
	}
	members[0] = 0
	second := x.View(0)
	if second.Epoch != 2 || second.Primary != 1 || !reflect.DeepEqual(second.Members, []int{1, 3}) || x.View(1).Epoch != 1 || x.Len() != 8 {
		t.Fatalf("%+v, %+v, %d on their way", second, x.View(1), x.Len())
	}
	for x.Len() > 0 {
		want(t, "Deliver", x.Deliver(x.Len()-1, 5), api.OK)
	}
	for n := range 4 {
		if v := x.State(n, 0).View; !reflect.DeepEqual(v, second) {
			t.Errorf("%d has %+v", n, v)
		}
	}
	second.Members[0] = 0
	if !reflect.DeepEqual(x.View(0).Members, []int{1, 3}) {
		t.Errorf("%+v", x.View(0))
	}
}

func TestP18_3ChangeErrors(t *testing.T) {
	x := newTide(t, conf(4, 2), 1<<20)
	want(t, "Change", x.Change(1, 2, []int{0, 2}), api.OK)
	for _, c := range []struct {
		s, primary int
		members    []int
		want       api.Errno
	}{
		{-1, 0, []int{0}, api.ErrArg}, {2, 0, []int{0}, api.ErrArg}, {1 << 62, 0, []int{0}, api.ErrArg},
		{0, 0, []int{0, 4}, api.ErrArg}, {0, 0, []int{0, 1 << 62}, api.ErrArg}, {0, 4, []int{4}, api.ErrArg}, {0, 90, []int{90}, api.ErrArg}, {0, 7, []int{7}, api.ErrArg},
		{0, 3, []int{3, 4}, api.ErrArg}, // ahead of that 3 isn't safe
		{0, 0, nil, api.ErrArg}, {0, 0, []int{-1, 0}, api.ErrArg}, {0, 0, []int{0, 0}, api.ErrArg}, {0, 0, []int{1, 0}, api.ErrArg},
		{0, 0, []int{1, 2}, api.ErrArg}, {0, -1, []int{0, 1}, api.ErrArg}, {0, 3, []int{0, 1}, api.ErrArg},
		{0, 3, []int{3}, api.ErrView}, {0, 3, []int{0, 1, 2, 3}, api.ErrView}, {1, 1, []int{1}, api.ErrView}, {1, 3, []int{0, 2, 3}, api.ErrView},
	} {
		refuses(t, x, "Change", func() api.Errno { return x.Change(c.s, c.primary, c.members) }, c.want)
	}
	// A node that doesn't run may be picked.
	want(t, "Crash", x.Crash(1, nil), api.OK)
	want(t, "Change", x.Change(0, 1, []int{1, 3}), api.OK)
	want(t, "Change", x.Change(0, 1, []int{0, 1, 2, 3}), api.OK)
}
