package clock_test

import (
	"math"
	"math/big"
	"testing"

	"slackwater/api"
	"slackwater/clock"
	"slackwater/stamp"
)

// The limits stand here as numbers, so that the tests hold them, too.
const (
	maxWall   = 1 << 62
	maxPart   = 1<<32 - 1
	maxOffset = 1 << 40
)

func at(wall int64, tick, mark uint32) api.Stamp {
	return api.Stamp{Wall: wall, Tick: tick, Mark: mark}
}

func make1(t *testing.T, offset, upper int64, mark uint32) *clock.Clock {
	t.Helper()
	c, e := clock.New(offset, upper, mark)
	if e != api.OK || c == nil {
		t.Fatalf("New(%d, %d, %d): %v, %d", offset, upper, mark, c, e)
	}
	return c
}

func raise(t *testing.T, c *clock.Clock, upper int64) {
	t.Helper()
	if e := c.Raise(upper); e != api.OK {
		t.Fatalf("Raise(%d): %d", upper, e)
	}
}

func wantStamp(t *testing.T, what string, got api.Stamp, e api.Errno, want api.Stamp) {
	t.Helper()
	if e != api.OK || got != want {
		t.Errorf("%s: %v, %d, want %v", what, got, e, want)
	}
}

func wantNow(t *testing.T, c *clock.Clock, phys int64, want api.Stamp) {
	t.Helper()
	got, e := c.Now(phys)
	wantStamp(t, "Now", got, e, want)
}

func wantUpdate(t *testing.T, c *clock.Clock, phys int64, in, want api.Stamp) {
	t.Helper()
	got, e := c.Update(phys, in)
	wantStamp(t, "Update", got, e, want)
}

// refuse calls what is to be refused, and holds that the clock is as it was.
func refuse(t *testing.T, c *clock.Clock, what string, want api.Errno, call func() (api.Stamp, api.Errno)) {
	t.Helper()
	last, upper := c.Last(), c.Upper()
	if s, e := call(); e != want || s != (api.Stamp{}) {
		t.Errorf("%s: %v, %d, want error %d", what, s, e, want)
	}
	if c.Last() != last || c.Upper() != upper {
		t.Errorf("%s: refused, but now %v, %d (was %v, %d)", what, c.Last(), c.Upper(), last, upper)
	}
}

func refuseNow(t *testing.T, c *clock.Clock, phys int64, want api.Errno) {
	t.Helper()
	refuse(t, c, "Now", want, func() (api.Stamp, api.Errno) { return c.Now(phys) })
}

func refuseUpdate(t *testing.T, c *clock.Clock, phys int64, in api.Stamp, want api.Errno) {
	t.Helper()
	refuse(t, c, "Update", want, func() (api.Stamp, api.Errno) { return c.Update(phys, in) })
}

func wrongWalls() []int64 {
	return []int64{math.MinInt64, math.MinInt64 + 1, -maxWall, -1, maxWall + 1, math.MaxInt64 - 1, math.MaxInt64}
}

func TestP2_1New(t *testing.T) {
	for _, offset := range []int64{0, 1, 10, maxOffset - 1, maxOffset} {
		for _, upper := range []int64{0, 1, 100, maxWall - 1, maxWall} {
			for _, mark := range []uint32{0, 3, maxPart} {
				c := make1(t, offset, upper, mark)
				if c.Upper() != upper || c.Last() != at(upper, maxPart, 0) {
					t.Errorf("New(%d, %d, %d): %d, %v", offset, upper, mark, c.Upper(), c.Last())
				}
			}
		}
	}
}

func TestP2_1NewErrors(t *testing.T) {
	for _, x := range wrongWalls() {
		if c, e := clock.New(10, x, 3); e != api.ErrArg || c != nil {
			t.Errorf("New(10, %d, 3): %v, %d, want ErrArg", x, c, e)
		}
	}
	for _, x := range append(wrongWalls(), maxOffset+1, maxWall) {
		if c, e := clock.New(x, 0, 3); e != api.ErrArg || c != nil {
			t.Errorf("New(%d, 0, 3): %v, %d, want ErrArg", x, c, e)
		}
		if c, e := clock.New(x, -1, 3); e != api.ErrArg || c != nil {
			t.Errorf("New(%d, -1, 3): %v, %d, want ErrArg", x, c, e)
		}
	}
}

func TestP2_1Example(t *testing.T) {
	c := make1(t, 10, 0, 3)
	refuseNow(t, c, 5, api.ErrUpper)
	raise(t, c, 100)
	wantNow(t, c, 5, at(5, 0, 3))
	wantNow(t, c, 5, at(5, 1, 3))
	wantNow(t, c, 4, at(5, 2, 3))
	refuseUpdate(t, c, 6, at(20, 0, 0), api.ErrOffset)
	wantUpdate(t, c, 12, at(20, 7, 1), at(20, 8, 3))
}

func TestP2_1Now(t *testing.T) {
	c := make1(t, 0, 7, 9)
	refuseNow(t, c, 7, api.ErrUpper)
	refuseNow(t, c, 0, api.ErrUpper)
	raise(t, c, 20)
	wantNow(t, c, 0, at(8, 0, 9))
	wantNow(t, c, 8, at(8, 1, 9))
	wantNow(t, c, 9, at(9, 0, 9))
	wantNow(t, c, 8, at(9, 1, 9))
	wantNow(t, c, 20, at(20, 0, 9))
	refuseNow(t, c, 21, api.ErrUpper)
	refuseNow(t, c, maxWall, api.ErrUpper)
	wantNow(t, c, 20, at(20, 1, 9))
	wantNow(t, c, 0, at(20, 2, 9))
}

func TestP2_1NowErrors(t *testing.T) {
	c := make1(t, 10, 0, 3)
	raise(t, c, maxWall)
	wantNow(t, c, 5, at(5, 0, 3))
	for _, phys := range wrongWalls() {
		refuseNow(t, c, phys, api.ErrArg)
	}
	wantNow(t, c, 5, at(5, 1, 3))
	wantNow(t, c, maxWall, at(maxWall, 0, 3))
}

// TestP2_1LastHasNoMark: the mark is in what is answered alone.
func TestP2_1LastHasNoMark(t *testing.T) {
	for _, mark := range []uint32{0, 1, 1 << 31, maxPart} {
		c := make1(t, 10, 0, mark)
		raise(t, c, 100)
		wantNow(t, c, 5, at(5, 0, mark))
		if c.Last() != at(5, 0, 0) {
			t.Errorf("Last: %v", c.Last())
		}
		wantUpdate(t, c, 5, at(5, 3, maxPart), at(5, 4, mark))
		if c.Last() != at(5, 4, 0) {
			t.Errorf("Last: %v", c.Last())
		}
	}
}

func TestP2_1Update(t *testing.T) {
	c := make1(t, 10, 0, 3)
	raise(t, c, 100)
	wantUpdate(t, c, 5, at(0, 0, 0), at(5, 0, 3))
	wantUpdate(t, c, 5, at(5, 0, 2), at(5, 1, 3))
	wantUpdate(t, c, 5, at(5, 1, 9), at(5, 2, 3))
	wantUpdate(t, c, 5, at(5, 7, 0), at(5, 8, 3))
	wantUpdate(t, c, 5, at(5, 2, maxPart), at(5, 9, 3))
	wantUpdate(t, c, 0, at(6, 0, 1), at(6, 1, 3))
	wantUpdate(t, c, 8, at(7, 9, 1), at(8, 0, 3))
	wantUpdate(t, c, 3, at(8, 0, 9), at(8, 1, 3))
	wantUpdate(t, c, 50, at(9, maxPart, maxPart), at(50, 0, 3))
	wantUpdate(t, c, 0, at(0, 0, 0), at(50, 1, 3))
	wantNow(t, c, 0, at(50, 2, 3))
}

func TestP2_1UpdateOffset(t *testing.T) {
	for _, offset := range []int64{0, 1, 10, maxOffset} {
		c := make1(t, offset, 0, 3)
		raise(t, c, maxWall)
		for _, phys := range []int64{1, 5, 1000} {
			refuseUpdate(t, c, phys, at(phys+offset+1, 0, 0), api.ErrOffset)
			refuseUpdate(t, c, phys, at(maxWall, maxPart, maxPart), api.ErrOffset)
			wantUpdate(t, c, phys, at(phys+offset, 4, 0), at(phys+offset, 5, 3))
		}
	}
	c := make1(t, 0, 0, 3)
	raise(t, c, maxWall)
	refuseUpdate(t, c, 0, at(1, 0, 0), api.ErrOffset)
	wantUpdate(t, c, 0, at(0, 4, 0), at(1, 0, 3))
	wantUpdate(t, c, maxWall, at(0, 0, 0), at(maxWall, 0, 3))
	c = make1(t, maxOffset, 0, 3)
	raise(t, c, maxWall)
	refuseUpdate(t, c, maxWall-maxOffset-1, at(maxWall, 0, 0), api.ErrOffset)
	wantUpdate(t, c, maxWall-maxOffset, at(maxWall, 0, 0), at(maxWall, 1, 3))
}

// TestP2_1UpdateErrorsInOrder: of several errors the chapter's first one.
func TestP2_1UpdateErrorsInOrder(t *testing.T) {
	c := make1(t, 10, 0, 3)
	raise(t, c, 100)
	wantNow(t, c, 5, at(5, 0, 3))
	for _, wall := range wrongWalls() {
		refuseUpdate(t, c, wall, at(6, 0, 0), api.ErrArg)
		refuseUpdate(t, c, wall, at(maxWall, 0, 0), api.ErrArg)
		refuseUpdate(t, c, wall, at(wall, 0, 0), api.ErrArg)
		refuseUpdate(t, c, 5, at(wall, 0, 0), api.ErrArg)
		refuseUpdate(t, c, maxWall, at(wall, maxPart, 0), api.ErrArg)
	}
	refuseUpdate(t, c, 5, at(maxWall, maxPart, 0), api.ErrOffset)
	refuseUpdate(t, c, 95, at(106, 0, 0), api.ErrOffset)
	refuseUpdate(t, c, 101, at(maxWall, maxPart, 0), api.ErrOffset)
	refuseUpdate(t, c, maxWall, at(maxWall, maxPart, 0), api.ErrOver)
	refuseUpdate(t, c, maxWall-10, at(maxWall, maxPart, 5), api.ErrOver)
	refuseUpdate(t, c, 95, at(105, 0, 0), api.ErrUpper)
	refuseUpdate(t, c, 100, at(100, maxPart, 0), api.ErrUpper)
	refuseUpdate(t, c, 101, at(6, 0, 0), api.ErrUpper)
	wantNow(t, c, 5, at(5, 1, 3))
	wantUpdate(t, c, 95, at(100, 1, 0), at(100, 2, 3))
}

func TestP2_1TicksEnd(t *testing.T) {
	c := make1(t, 10, 0, 3)
	raise(t, c, 21)
	wantUpdate(t, c, 15, at(20, maxPart-1, 0), at(20, maxPart, 3))
	wantNow(t, c, 15, at(21, 0, 3))
	wantUpdate(t, c, 15, at(21, maxPart-1, maxPart), at(21, maxPart, 3))
	refuseNow(t, c, 15, api.ErrUpper)
	refuseNow(t, c, 21, api.ErrUpper)
	refuseUpdate(t, c, 21, at(0, 0, 0), api.ErrUpper)
	raise(t, c, 22)
	wantNow(t, c, 15, at(22, 0, 3))
}

func TestP2_1StampsEnd(t *testing.T) {
	c := make1(t, 10, 0, 3)
	raise(t, c, maxWall)
	wantUpdate(t, c, maxWall-10, at(maxWall, maxPart-1, 7), at(maxWall, maxPart, 3))
	for _, phys := range []int64{0, 5, maxWall - 1, maxWall} {
		refuseNow(t, c, phys, api.ErrOver)
		refuseUpdate(t, c, phys, at(0, 0, 0), api.ErrOver)
	}
	if c.Last() != at(maxWall, maxPart, 0) {
		t.Errorf("Last: %v", c.Last())
	}
	c = make1(t, 10, maxWall, 3)
	refuseNow(t, c, 0, api.ErrOver)
	refuseNow(t, c, maxWall, api.ErrOver)
	refuseUpdate(t, c, maxWall, at(maxWall, 0, 0), api.ErrOver)
}

func TestP2_2Raise(t *testing.T) {
	c := make1(t, 10, 5, 3)
	for _, upper := range []int64{5, 6, 6, 100, maxWall - 1, maxWall, maxWall} {
		raise(t, c, upper)
		if c.Upper() != upper || c.Last() != at(5, maxPart, 0) {
			t.Errorf("Raise(%d): %d, %v", upper, c.Upper(), c.Last())
		}
	}
}

func TestP2_2RaiseErrors(t *testing.T) {
	c := make1(t, 10, 5, 3)
	raise(t, c, 100)
	wantNow(t, c, 50, at(50, 0, 3))
	for _, upper := range append(wrongWalls(), 0, 5, 50, 99) {
		if e := c.Raise(upper); e != api.ErrArg {
			t.Errorf("Raise(%d): %d, want ErrArg", upper, e)
		}
		if c.Upper() != 100 || c.Last() != at(50, 0, 0) {
			t.Errorf("Raise(%d): refused, but now %d, %v", upper, c.Upper(), c.Last())
		}
	}
	refuseNow(t, c, 101, api.ErrUpper)
	wantNow(t, c, 100, at(100, 0, 3))
}

func TestP2_2NilClock(t *testing.T) {
	var c *clock.Clock
	for _, phys := range append(wrongWalls(), 0, 5, maxWall) {
		if s, e := c.Now(phys); e != api.ErrNil || s != (api.Stamp{}) {
			t.Errorf("Now(%d) of nil: %v, %d", phys, s, e)
		}
		for _, wall := range []int64{-1, 0, 5, maxWall, maxWall + 1} {
			if s, e := c.Update(phys, at(wall, maxPart, 0)); e != api.ErrNil || s != (api.Stamp{}) {
				t.Errorf("Update(%d) of nil: %v, %d", phys, s, e)
			}
		}
		if e := c.Raise(phys); e != api.ErrNil {
			t.Errorf("Raise(%d) of nil: %d", phys, e)
		}
	}
	if c.Upper() != 0 || c.Last() != (api.Stamp{}) {
		t.Errorf("Upper, Last of nil: %d, %v", c.Upper(), c.Last())
	}
}

// TestP2_3Restart: a clock that is made with the bound that lasted gives
// stamps behind all that the earlier one gave, with whatever marks.
func TestP2_3Restart(t *testing.T) {
	c := make1(t, 10, 0, maxPart)
	var all []api.Stamp
	for k := range 5 {
		raise(t, c, c.Upper()+10)
		for _, phys := range []int64{0, c.Upper() - 9, c.Upper(), 0} {
			if s, e := c.Now(phys); e == api.OK {
				all = append(all, s)
			}
			if s, e := c.Update(c.Upper(), at(c.Upper(), maxPart-2, 0)); e == api.OK {
				all = append(all, s)
			}
		}
		lasted := c.Upper()
		c = make1(t, 10, lasted, uint32(k))
		refuseNow(t, c, 0, api.ErrUpper)
		refuseNow(t, c, lasted, api.ErrUpper)
	}
	if len(all) < 15 {
		t.Fatalf("only %d stamps were given", len(all))
	}
	for i := 1; i < len(all); i++ {
		if stamp.Compare(all[i-1], all[i]) != -1 {
			t.Errorf("%v, then %v", all[i-1], all[i])
		}
	}
}

func TestR5ClocksAreApart(t *testing.T) {
	a, b := make1(t, 10, 0, 1), make1(t, 20, 50, 2)
	raise(t, a, 100)
	wantNow(t, a, 5, at(5, 0, 1))
	refuseNow(t, b, 5, api.ErrUpper)
	raise(t, b, 60)
	wantNow(t, b, 5, at(51, 0, 2))
	wantNow(t, a, 5, at(5, 1, 1))
	refuseUpdate(t, a, 5, at(25, 0, 0), api.ErrOffset)
	wantUpdate(t, b, 5, at(25, 0, 0), at(51, 1, 2))
	if a.Upper() != 100 || b.Upper() != 60 {
		t.Errorf("Upper: %d, %d", a.Upper(), b.Upper())
	}
}

// model is a clock by another way of reckoning: a stamp without its Mark is
// the number Wall * 2^32 + Tick, and a candidate is the greater one of the
// reading's first number and the one behind what was.
type model struct {
	offset, upper int64
	mark          uint32
	last          *big.Int
}

func number(wall int64, tick uint32) *big.Int {
	n := new(big.Int).Lsh(big.NewInt(wall), 32)
	return n.Add(n, big.NewInt(int64(tick)))
}

func greater(a, b *big.Int) *big.Int {
	if a.Cmp(b) > 0 {
		return a
	}
	return b
}

func outside(n int64) bool { return n < 0 || n > maxWall }

func (m *model) give(phys int64, behind *big.Int) (api.Stamp, api.Errno) {
	n := greater(number(phys, 0), new(big.Int).Add(behind, big.NewInt(1)))
	if n.Cmp(number(maxWall, maxPart)) > 0 {
		return api.Stamp{}, api.ErrOver
	}
	wall := new(big.Int).Rsh(n, 32).Int64()
	if wall > m.upper {
		return api.Stamp{}, api.ErrUpper
	}
	m.last = n
	return at(wall, uint32(new(big.Int).Sub(n, number(wall, 0)).Uint64()), m.mark), api.OK
}

func (m *model) now(phys int64) (api.Stamp, api.Errno) {
	if outside(phys) {
		return api.Stamp{}, api.ErrArg
	}
	return m.give(phys, m.last)
}

func (m *model) update(phys int64, in api.Stamp) (api.Stamp, api.Errno) {
	if outside(phys) || outside(in.Wall) {
		return api.Stamp{}, api.ErrArg
	}
	if new(big.Int).Sub(big.NewInt(in.Wall), big.NewInt(phys)).Cmp(big.NewInt(m.offset)) > 0 {
		return api.Stamp{}, api.ErrOffset
	}
	return m.give(phys, greater(m.last, number(in.Wall, in.Tick)))
}

func (m *model) raise(upper int64) api.Errno {
	if upper < m.upper || upper > maxWall {
		return api.ErrArg
	}
	m.upper = upper
	return api.OK
}

// dice are numbers that look picked, and are the same in each run.
type dice uint64

func (d *dice) pick(n int) int {
	*d = *d*6364136223846793005 + 1442695040888963407
	return int(uint64(*d) >> 33 % uint64(n))
}

func (d *dice) tick() uint32 {
	l := []uint32{0, 1, 2, 7, 1 << 31, maxPart - 1, maxPart}
	return l[d.pick(len(l))]
}

// wall is most times near base, at times far off, or no right one.
func (d *dice) wall(base int64) int64 {
	l := append(wrongWalls(), 0, 1, base, maxWall-1, maxWall)
	if d.pick(12) == 0 {
		return l[d.pick(len(l))]
	}
	return base + int64(d.pick(60)) - 20
}

func TestP2_1To2_3AgainstAModel(t *testing.T) {
	for seed := range 60 {
		d := dice(seed)
		base := []int64{30, 1 << 33, maxWall - 25}[seed%3]
		offset := []int64{0, 5, 40, maxOffset}[seed%4]
		m := &model{offset: offset, upper: base - 20, mark: d.tick()}
		m.last = number(m.upper, maxPart)
		c := make1(t, offset, m.upper, m.mark)
		given := api.Stamp{}
		for step := range 400 {
			phys, in := d.wall(base), at(d.wall(base), d.tick(), d.tick())
			var got, want api.Stamp
			var e, f api.Errno
			op := d.pick(5)
			switch {
			case op < 2:
				got, e = c.Now(phys)
				want, f = m.now(phys)
			case op < 4:
				got, e = c.Update(phys, in)
				want, f = m.update(phys, in)
			default:
				e, f = c.Raise(phys), m.raise(phys)
			}
			if got != want || e != f {
				t.Fatalf("seed %d, step %d, op %d (%d, %v): %v, %d, want %v, %d", seed, step, op, phys, in, got, e, want, f)
			}
			if number(c.Last().Wall, c.Last().Tick).Cmp(m.last) != 0 || c.Last().Mark != 0 || c.Upper() != m.upper {
				t.Fatalf("seed %d, step %d: Last %v, Upper %d", seed, step, c.Last(), c.Upper())
			}
			if op < 4 && e == api.OK {
				holdRises(t, c, given, got)
				given = got
			}
			if op >= 2 && op < 4 && e == api.OK && stamp.Compare(got, in) != 1 {
				t.Fatalf("Update took %v, and gave %v", in, got)
			}
		}
	}
}

// holdRises holds what P2.3 says of each stamp that is given.
func holdRises(t *testing.T, c *clock.Clock, earlier, got api.Stamp) {
	t.Helper()
	if earlier != (api.Stamp{}) && stamp.Compare(earlier, got) != -1 {
		t.Fatalf("%v, then %v", earlier, got)
	}
	if got.Wall > c.Upper() || !stamp.Right(got) {
		t.Fatalf("%v, above the bound %d", got, c.Upper())
	}
}
