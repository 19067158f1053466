package view

import (
	"slices"
	"testing"

	"slackwater/api"
)

// So many Changes as lead to the last epoch can't be done in a test: a control
// is put there from within.
func atEpoch(epoch int) *Control {
	c, _ := New([]int{0, 1, 2})
	c.now.Epoch = epoch
	return c
}

func wantHeld(t *testing.T, c *Control, epoch, primary int, members, safe []int) {
	t.Helper()
	if c.now.Epoch != epoch || c.now.Primary != primary || !slices.Equal(c.now.Members, members) || !slices.Equal(c.safe, safe) {
		t.Errorf("%v, safe %v, want %d, %d, %v, safe %v", c.now, c.safe, epoch, primary, members, safe)
	}
}

func TestP15_2ChangeErrOver(t *testing.T) {
	c := atEpoch(1<<62 - 1)
	if v, e := c.Change(1, []int{1, 2, 3}); e != api.OK || v.Epoch != 1<<62 || !Right(v) {
		t.Errorf("Change to the last epoch: %v, error %d", v, e)
	}
	wantHeld(t, c, 1<<62, 1, []int{1, 2, 3}, []int{1, 2})
	for _, x := range []struct {
		primary int
		members []int
		want    api.Errno
	}{
		{1, []int{1, 2, 3}, api.ErrOver}, {2, []int{2}, api.ErrOver}, {3, []int{3}, api.ErrView}, {0, []int{0, 1}, api.ErrView}, {0, []int{1}, api.ErrArg},
		{1, nil, api.ErrArg}, {1, []int{2, 1}, api.ErrArg}, {8, []int{8}, api.ErrArg},
	} {
		if v, e := c.Change(x.primary, x.members); e != x.want || v.Epoch != 0 || v.Primary != 0 || v.Members != nil {
			t.Errorf("Change(%d, %v): %v, error %d, want error %d", x.primary, x.members, v, e, x.want)
		}
		wantHeld(t, c, 1<<62, 1, []int{1, 2, 3}, []int{1, 2})
	}
}

func TestP15_2ActiveOfTheLastEpoch(t *testing.T) {
	c := atEpoch(1<<62 - 1)
	c.Change(1, []int{1, 2, 3})
	for _, x := range []struct {
		epoch int
		want  api.Errno
		safe  []int
	}{
		{1<<62 - 1, api.OK, []int{1, 2}}, {1<<62 + 1, api.ErrArg, []int{1, 2}}, {1<<63 - 1, api.ErrArg, []int{1, 2}}, {1 << 62, api.OK, []int{1, 2, 3}},
	} {
		if e := c.Active(x.epoch); e != x.want {
			t.Errorf("Active(%d): error %d, want %d", x.epoch, e, x.want)
		}
		wantHeld(t, c, 1<<62, 1, []int{1, 2, 3}, x.safe)
	}
}
