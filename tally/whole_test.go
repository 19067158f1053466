package tally_test

import (
	"math"
	"math/big"
	"slices"
	"testing"

	"slackwater/api"
	"slackwater/tally"
)

// Tests of P12.3, and of the rules that hold everywhere: what is told, held
// against a model that reckons with numbers without ends.

// dice throws the same numbers in each run.
type dice uint64

func (d *dice) next() uint64 {
	*d = *d*6364136223846793005 + 1442695040888963407
	x := uint64(*d)
	return x ^ x>>29
}

func (d *dice) below(n int) int { return int(d.next() >> 8 % uint64(n)) }

// num is a number that is small, or one near an end, so that sums often lie at
// the ends.
func (d *dice) num() int64 {
	small := int64(d.below(5)) - 2
	switch d.below(8) {
	case 0:
		return highest - 2 + small
	case 1:
		return lowest + 2 + small
	case 2:
		return 1<<62 + small
	case 3:
		return -1<<62 + small
	case 4:
		return 1<<32 + small
	case 5:
		return int64(d.next())
	}
	return small
}

// samples are some at times that don't fall.
func (d *dice) samples(most int) []tally.Sample {
	var l []tally.Sample
	at := int64(d.below(4)) - 2
	for range d.below(most + 1) {
		l = append(l, tally.Sample{Time: at, Num: d.num()})
		at += int64(d.below(4))
	}
	return l
}

// mix lays samples in another order.
func (d *dice) mix(l []tally.Sample) []tally.Sample {
	l = slices.Clone(l)
	for i := range l {
		j := d.below(i + 1)
		l[i], l[j] = l[j], l[i]
	}
	return l
}

// wide is what is told of samples, whatever its size; nil: nothing.
func wide(op int, l []tally.Sample) *big.Int {
	if op == count {
		return big.NewInt(int64(len(l)))
	}
	if len(l) == 0 {
		return nil
	}
	n := big.NewInt(l[0].Num)
	for _, s := range l[1:] {
		num := big.NewInt(s.Num)
		switch {
		case op == sum:
			n.Add(n, num)
		case op == least && num.Cmp(n) < 0, op == most && num.Cmp(n) > 0:
			n = num
		}
	}
	if op == delta {
		n.Sub(big.NewInt(l[len(l)-1].Num), n)
	}
	return n
}

func model(op int, l []tally.Sample) (int64, bool, api.Errno) {
	n := wide(op, l)
	switch {
	case n == nil:
		return 0, false, api.OK
	case !n.IsInt64():
		return 0, false, api.ErrOver
	}
	return n.Int64(), true, api.OK
}

// modelWindows asks each window for its samples, one by one.
func modelWindows(op int, l []tally.Sample, from, to, step int64) ([]tally.Cell, api.Errno) {
	var cells []tally.Cell
	for k := int64(0); from+k*step < to; k++ {
		var in []tally.Sample
		for _, s := range l {
			if s.Time >= from+k*step && s.Time < min(from+(k+1)*step, to) {
				in = append(in, s)
			}
		}
		if len(in) == 0 {
			continue
		}
		n, _, e := model(op, in)
		if e != api.OK {
			return nil, e
		}
		cells = append(cells, tally.Cell{From: from + k*step, Num: n})
	}
	return cells, api.OK
}

func wantModel(t *testing.T, op int, l []tally.Sample) {
	t.Helper()
	n, ok, e := model(op, l)
	if ok {
		wantFold(t, op, l, n)
	} else {
		wantFoldError(t, op, l, e)
	}
}

func TestP12_1FoldModel(t *testing.T) {
	d := dice(1)
	for range 20000 {
		l := d.samples(5)
		for _, op := range ops() {
			wantModel(t, op, l)
		}
	}
	for range 20 {
		l := make([]tally.Sample, d.below(maxPoints+1))
		for i := range l {
			l[i].Num = d.num()
		}
		for _, op := range ops() {
			wantModel(t, op, l)
		}
	}
}

func TestP12_2WindowsModel(t *testing.T) {
	d := dice(2)
	for range 20000 {
		l := d.samples(8)
		from := int64(d.below(8))
		to, step := from+int64(d.below(16)), 1+int64(d.below(9))
		for _, op := range ops() {
			want, e := modelWindows(op, l, from, to, step)
			if e == api.OK {
				wantWindows(t, op, l, from, to, step, want...)
			} else {
				wantWindowsError(t, op, l, from, to, step, e)
			}
		}
	}
}

// wantParts holds what is told of a whole against what is told of its parts.
func wantParts(t *testing.T, op int, first, second []tally.Sample) {
	t.Helper()
	whole := slices.Concat(first, second)
	a, inFirst, e := tally.Fold(op, first)
	b, inSecond, f := tally.Fold(op, second)
	switch {
	case e != api.OK || f != api.OK:
		// Of a part that is over nothing is told that could be put together.
	case !inFirst && !inSecond:
		wantFoldError(t, op, whole, api.OK)
	case !inFirst:
		wantFold(t, op, whole, b)
	case !inSecond:
		wantFold(t, op, whole, a)
	case op == least:
		wantFold(t, op, whole, min(a, b))
	case op == most:
		wantFold(t, op, whole, max(a, b))
	default:
		n := new(big.Int).Add(big.NewInt(a), big.NewInt(b))
		if n.IsInt64() {
			wantFold(t, op, whole, n.Int64())
		} else {
			wantFoldError(t, op, whole, api.ErrOver)
		}
	}
}

func TestP12_3Parts(t *testing.T) {
	d := dice(3)
	for range 5000 {
		l := d.samples(7)
		for cut := range len(l) + 1 {
			for _, op := range []int{sum, count, least, most} {
				wantParts(t, op, l[:cut], l[cut:])
			}
		}
	}
	for _, op := range []int{sum, count, least, most} {
		wantParts(t, op, many(maxPoints/2, 3), many(maxPoints/2, -2))
		wantParts(t, op, nil, many(maxPoints, 3))
		wantParts(t, op, many(maxPoints-1, -1), many(1, 7))
	}
}

// A sum is told of both parts together, also where it can't be told of each.
func TestP12_3PartsThatAreOver(t *testing.T) {
	first, second := nums(highest, highest), nums(lowest, lowest, 3)
	wantFoldError(t, sum, first, api.ErrOver)
	wantFoldError(t, sum, second, api.ErrOver)
	wantFold(t, sum, slices.Concat(first, second), 1)
	wantFold(t, sum, slices.Concat(second, first), 1)
}

func TestP12_3AnyOrder(t *testing.T) {
	d := dice(4)
	for range 5000 {
		l := d.samples(9)
		for _, op := range []int{sum, count, least, most} {
			n, ok, e := tally.Fold(op, l)
			back := slices.Clone(l)
			slices.Reverse(back)
			for _, other := range [][]tally.Sample{back, d.mix(l), d.mix(l)} {
				if m, still, f := tally.Fold(op, other); m != n || still != ok || f != e {
					t.Fatalf("Fold(%d) of %v: %d, %v, error %d; of %v: %d, %v, error %d", op, l, n, ok, e, other, m, still, f)
				}
			}
		}
	}
}

// Windows are parts: what is told of all of them is what is told of the span.
func TestP12_3WindowsAreParts(t *testing.T) {
	d := dice(5)
	for range 5000 {
		l := d.samples(9)
		from := int64(d.below(4))
		to, step := from+int64(d.below(20)), 1+int64(d.below(6))
		for _, op := range []int{sum, count, least, most} {
			cells, e := tally.Windows(op, l, from, to, step)
			if e != api.OK {
				continue
			}
			var told []tally.Sample
			for _, c := range cells {
				told = append(told, tally.Sample{Time: c.From, Num: c.Num})
			}
			together := op
			if op == count {
				together = sum
			}
			if n, ok, _ := tally.Fold(together, told); ok && len(cells) > 0 {
				wantWindows(t, op, l, from, to, highest, tally.Cell{From: from, Num: n})
			}
		}
	}
}

// edges are numbers at the edges of all that is bounded.
func edges() []int64 {
	return []int64{
		lowest, lowest + 1, -maxTime, -1025, -1, 0, 1, 2, 5, 1023, 1024, 1025,
		maxTime - 1, maxTime, maxTime + 1, highest - 1, highest,
	}
}

// Of lists whose times fall, too, a call ends, and tells the same each time.
func TestR1AnyArguments(t *testing.T) {
	d := dice(6)
	lists := [][]tally.Sample{nil, {}, many(maxPoints+1, 1)}
	for range 4 {
		var l []tally.Sample
		for _, at := range edges() {
			l = append(l, tally.Sample{Time: at, Num: d.num()})
		}
		lists = append(lists, d.mix(l))
	}
	for _, op := range append(wrongOps(), ops()...) {
		for _, l := range lists {
			tally.Fold(op, l)
			for _, from := range edges() {
				for _, to := range edges() {
					for _, step := range edges() {
						wantSame(t, op, l, from, to, step)
					}
				}
			}
		}
	}
}

func wantSame(t *testing.T, op int, l []tally.Sample, from, to, step int64) {
	t.Helper()
	cells, e := tally.Windows(op, l, from, to, step)
	again, f := tally.Windows(op, l, from, to, step)
	if e != f || !slices.Equal(cells, again) {
		t.Errorf("Windows(%d) from %d to %d by %d: %v, error %d; then %v, error %d", op, from, to, step, cells, e, again, f)
	}
	if e != api.OK && len(cells) != 0 {
		t.Errorf("Windows(%d) from %d to %d by %d: error %d, and %v", op, from, to, step, e, cells)
	}
}

// The longest lists that fall, and the most windows, are not slow.
func TestR1FallingTimesEnd(t *testing.T) {
	l := many(maxPoints, 1)
	slices.Reverse(l)
	for _, op := range ops() {
		for _, step := range []int64{1, 64, maxPoints, math.MaxInt64} {
			wantSame(t, op, l, 0, maxWindows*min(step, 64), step)
		}
	}
}

func TestR3ListsAreLeftAlone(t *testing.T) {
	for _, room := range []int{0, 1, 5} {
		full := times(0, 1, 1, 4, 6, 7, 9, 12, 13, 15)
		l := full[: len(full)-room : len(full)]
		before := slices.Clone(full)
		for _, op := range ops() {
			tally.Fold(op, l)
			tally.Windows(op, l, 1, 12, 3)
			tally.Windows(op, l, 0, 16, 16)
		}
		if !slices.Equal(full, before) {
			t.Errorf("samples %v, want %v", full, before)
		}
	}
}

func TestR3AnswersAreNew(t *testing.T) {
	l := times(0, 1, 4, 6, 7)
	first, _ := tally.Windows(sum, l, 0, 9, 2)
	second, _ := tally.Windows(sum, l, 0, 9, 2)
	want := slices.Clone(second)
	clear(first[:cap(first)])
	clear(l)
	if len(want) == 0 || !slices.Equal(second, want) {
		t.Errorf("cells %v, want %v", second, want)
	}
}

func TestR4NilAndEmptyLists(t *testing.T) {
	for _, l := range [][]tally.Sample{nil, {}, times(3, 4)[:0]} {
		for _, op := range ops() {
			wantWindows(t, op, l, 0, 9, 3)
			wantWindows(t, op, l, 0, maxWindows, 1)
			wantWindowsError(t, op, l, 0, maxWindows+1, 1, api.ErrLimit)
		}
	}
}
