package tally_test

import (
	"math"
	"slices"
	"testing"

	"slackwater/api"
	"slackwater/tally"
)

// The limits and the ops stand here as numbers, so that the tests hold them,
// too.
const (
	maxPoints  = 65536
	maxWindows = 1024
	maxTime    = 1 << 62
)

const (
	sum   = 1
	count = 2
	least = 3
	most  = 4
	delta = 5
)

const (
	lowest  = math.MinInt64
	highest = math.MaxInt64
)

func ops() []int { return []int{sum, count, least, most, delta} }

func wrongOps() []int {
	return []int{0, 6, -1, -5, 7, 1<<8 + 1, 1<<32 + 1, 1<<32 + 5, math.MinInt, math.MinInt + 1, math.MaxInt}
}

// nums are samples of numbers, at times that rise from 0 on.
func nums(l ...int64) []tally.Sample {
	var all []tally.Sample
	for i, n := range l {
		all = append(all, tally.Sample{Time: int64(i), Num: n})
	}
	return all
}

// times are samples at times, with the numbers 1, 2, 4 and so on, so that their
// sum tells which of them are in it.
func times(l ...int64) []tally.Sample {
	var all []tally.Sample
	for i, at := range l {
		all = append(all, tally.Sample{Time: at, Num: 1 << i})
	}
	return all
}

// many are n samples with one number each, at the times from 0 on.
func many(n int, num int64) []tally.Sample {
	l := make([]tally.Sample, n)
	for i := range l {
		l[i] = tally.Sample{Time: int64(i), Num: num}
	}
	return l
}

// short is a list as a text may tell it.
func short[T any](l []T) []T { return l[:min(len(l), 8)] }

func wantFold(t *testing.T, op int, l []tally.Sample, want int64) {
	t.Helper()
	if n, ok, e := tally.Fold(op, l); n != want || !ok || e != api.OK {
		t.Errorf("Fold(%d) of %d samples %v: %d, %v, error %d, want %d", op, len(l), short(l), n, ok, e, want)
	}
}

func wantFoldError(t *testing.T, op int, l []tally.Sample, want api.Errno) {
	t.Helper()
	if n, ok, e := tally.Fold(op, l); n != 0 || ok || e != want {
		t.Errorf("Fold(%d) of %d samples %v: %d, %v, error %d, want error %d", op, len(l), short(l), n, ok, e, want)
	}
}

func wantWindows(t *testing.T, op int, l []tally.Sample, from, to, step int64, want ...tally.Cell) {
	t.Helper()
	cells, e := tally.Windows(op, l, from, to, step)
	if e != api.OK || !slices.Equal(cells, want) {
		t.Errorf("Windows(%d) of %d samples %v from %d to %d by %d: %v, error %d, want %v",
			op, len(l), short(l), from, to, step, short(cells), e, short(want))
	}
}

func wantWindowsError(t *testing.T, op int, l []tally.Sample, from, to, step int64, want api.Errno) {
	t.Helper()
	cells, e := tally.Windows(op, l, from, to, step)
	if e != want || len(cells) != 0 {
		t.Errorf("Windows(%d) of %d samples %v from %d to %d by %d: %v, error %d, want error %d",
			op, len(l), short(l), from, to, step, short(cells), e, want)
	}
}

func TestP12_1Ops(t *testing.T) {
	got := []int{tally.Sum, tally.Count, tally.Min, tally.Max, tally.Delta}
	if !slices.Equal(got, ops()) {
		t.Errorf("ops %v, want %v", got, ops())
	}
}

func TestP12_1Fold(t *testing.T) {
	for _, c := range []struct {
		l                              []tally.Sample
		sum, count, least, most, delta int64
	}{
		{nums(0), 0, 1, 0, 0, 0},
		{nums(7), 7, 1, 7, 7, 0},
		{nums(-7), -7, 1, -7, -7, 0},
		{nums(lowest), lowest, 1, lowest, lowest, 0},
		{nums(highest), highest, 1, highest, highest, 0},
		{nums(3, 9, 5), 17, 3, 3, 9, 2},
		{nums(9, 3, 5), 17, 3, 3, 9, -4},
		{nums(5, 9, 3), 17, 3, 3, 9, -2},
		{nums(4, 4), 8, 2, 4, 4, 0},
		{nums(-1, -3, -2), -6, 3, -3, -1, -1},
		{nums(-1, 1), 0, 2, -1, 1, 2},
		{nums(1, 1, -5, 1, 1), -1, 5, -5, 1, 0},
		{nums(1<<32, 1, -1<<32, -1), 0, 4, -1 << 32, 1 << 32, -1 - 1<<32},
		{nums(-1, -1, -1), -3, 3, -1, -1, 0},
		{nums(1<<32-1, 1), 1 << 32, 2, 1, 1<<32 - 1, 2 - 1<<32},
		{nums(1<<31, -1<<31), 0, 2, -1 << 31, 1 << 31, -1 << 32},
	} {
		wantFold(t, sum, c.l, c.sum)
		wantFold(t, count, c.l, c.count)
		wantFold(t, least, c.l, c.least)
		wantFold(t, most, c.l, c.most)
		wantFold(t, delta, c.l, c.delta)
	}
}

// Fold asks for the order of the list, not for its times.
func TestP12_1FoldOfAnyTimes(t *testing.T) {
	for _, at := range [][]int64{{0, 1, 2}, {5, 5, 5}, {2, 1, 0}, {-1, lowest, highest}, {highest, 0, lowest}} {
		l := []tally.Sample{{Time: at[0], Num: 3}, {Time: at[1], Num: 9}, {Time: at[2], Num: 5}}
		wantFold(t, sum, l, 17)
		wantFold(t, count, l, 3)
		wantFold(t, least, l, 3)
		wantFold(t, most, l, 9)
		wantFold(t, delta, l, 2)
	}
}

func TestP12_1FoldOfNothing(t *testing.T) {
	for _, l := range [][]tally.Sample{nil, {}, nums(1, 2)[:0]} {
		wantFold(t, count, l, 0)
		for _, op := range []int{sum, least, most, delta} {
			wantFoldError(t, op, l, api.OK)
		}
	}
}

// A sum that is an int64 is told, whatever lies on the way to it.
func TestP12_1SumAtTheEnds(t *testing.T) {
	for _, c := range []struct {
		l    []tally.Sample
		want int64
	}{
		{nums(highest, 1, -1), highest},
		{nums(1, highest, -1), highest},
		{nums(highest, -1, 1), highest},
		{nums(lowest, -1, 1), lowest},
		{nums(-1, lowest, 1), lowest},
		{nums(highest, lowest), -1},
		{nums(lowest, highest), -1},
		{nums(highest-1, 1), highest},
		{nums(lowest+1, -1), lowest},
		{nums(1<<62, 1<<62-1), highest},
		{nums(-1<<62, -1<<62), lowest},
		{nums(highest, highest, highest, lowest, lowest, lowest), -3},
		{nums(lowest, lowest, highest, highest, 2), 0},
	} {
		wantFold(t, sum, c.l, c.want)
	}
	for _, l := range [][]tally.Sample{
		nums(highest, 1), nums(1, highest), nums(highest, highest), nums(1<<62, 1<<62),
		nums(lowest, -1), nums(-1, lowest), nums(lowest, lowest), nums(-1<<62, -1<<62-1),
		nums(highest, 1, 1, -1), nums(lowest, -1, -1, 1),
		nums(highest, highest, 2), nums(lowest, lowest, -1), // 2^64, -2^64 - 1
		nums(lowest, lowest), nums(lowest, lowest, lowest, lowest), // -2^64, -2^65
	} {
		wantFoldError(t, sum, l, api.ErrOver)
	}
}

func TestP12_1SumOfAsManyAsMayBe(t *testing.T) {
	for _, n := range []int64{0, 1, -1, 1 << 32, -1 << 32, 1<<47 - 1, -1 << 47} {
		wantFold(t, sum, many(maxPoints, n), n*maxPoints)
	}
	for _, n := range []int64{1 << 47, -1<<47 - 1, 1 << 48, 1 << 62, highest, lowest} {
		wantFoldError(t, sum, many(maxPoints, n), api.ErrOver)
	}
	wantFold(t, sum, append(many(maxPoints/2, highest), many(maxPoints/2, -highest)...), 0)
	wantFold(t, sum, append(many(maxPoints/2, lowest), many(maxPoints/2, highest)...), -maxPoints/2)
}

func TestP12_1DeltaAtTheEnds(t *testing.T) {
	for _, c := range []struct{ first, last, want int64 }{
		{0, highest, highest}, {0, lowest, lowest},
		{-1, highest - 1, highest}, {-1, lowest, lowest + 1},
		{1, lowest + 1, lowest}, {1, highest, highest - 1},
		{highest, 0, -highest}, {highest, -1, lowest}, {highest, highest, 0},
		{lowest, -1, highest}, {lowest, lowest, 0}, {lowest + 1, 0, highest},
		{1 << 62, -1 << 62, lowest}, {-1 << 62, 1<<62 - 1, highest},
	} {
		wantFold(t, delta, nums(c.first, c.last), c.want)
		// What stands between them doesn't matter.
		wantFold(t, delta, nums(c.first, lowest, highest, c.last), c.want)
	}
	for _, c := range [][]int64{
		{-1, highest}, {highest, -2}, {highest, lowest}, {lowest, highest},
		{lowest, 0}, {lowest, 1}, {1, lowest}, {2, lowest + 1},
		{1 << 62, -1<<62 - 1}, {-1 << 62, 1 << 62},
	} {
		wantFoldError(t, delta, nums(c[0], c[1]), api.ErrOver)
		wantFoldError(t, delta, nums(c[0], 0, c[1]), api.ErrOver)
	}
}

// Numbers of which a Sum or a Delta can't be told may be counted and held
// against each other.
func TestP12_1OnlySumAndDeltaAreOver(t *testing.T) {
	l := nums(lowest, lowest, highest)
	wantFold(t, count, l, 3)
	wantFold(t, least, l, lowest)
	wantFold(t, most, l, highest)
	wantFoldError(t, sum, l[:2], api.ErrOver)
	wantFoldError(t, delta, l, api.ErrOver)
}

func TestP12_1FoldOfWrongArguments(t *testing.T) {
	for _, op := range wrongOps() {
		for _, l := range [][]tally.Sample{nil, nums(1), nums(highest, 1), many(maxPoints, 1), many(maxPoints+1, 1)} {
			wantFoldError(t, op, l, api.ErrArg)
		}
	}
	for _, op := range ops() {
		wantFoldError(t, op, many(maxPoints+1, 0), api.ErrArg)
		wantFoldError(t, op, many(maxPoints+1, highest), api.ErrArg)
		wantFoldError(t, op, many(1<<20, 0), api.ErrArg)
	}
}

func TestP12_1FoldOfAsManyAsMayBe(t *testing.T) {
	l := many(maxPoints, 1)
	l[0].Num, l[1].Num, l[maxPoints-2].Num, l[maxPoints-1].Num = 3, 9, -9, 7
	wantFold(t, sum, l, maxPoints-4+10)
	wantFold(t, count, l, maxPoints)
	wantFold(t, least, l, -9)
	wantFold(t, most, l, 9)
	wantFold(t, delta, l, 4)
}

func TestP12_2Windows(t *testing.T) {
	wantWindows(t, count, times(0, 3, 4), 0, 5, 2, tally.Cell{From: 0, Num: 1}, tally.Cell{From: 2, Num: 1}, tally.Cell{From: 4, Num: 1})
	l := []tally.Sample{{0, 3}, {1, 9}, {1, 5}, {4, -2}, {6, 7}, {7, 7}, {7, -1}, {8, 4}}
	for _, c := range []struct {
		op   int
		want []tally.Cell
	}{
		{sum, []tally.Cell{{0, 17}, {3, -2}, {6, 17}}},
		{count, []tally.Cell{{0, 3}, {3, 1}, {6, 4}}},
		{least, []tally.Cell{{0, 3}, {3, -2}, {6, -1}}},
		{most, []tally.Cell{{0, 9}, {3, -2}, {6, 7}}},
		{delta, []tally.Cell{{0, 2}, {3, 0}, {6, -3}}},
	} {
		wantWindows(t, c.op, l, 0, 9, 3, c.want...)
		wantWindows(t, c.op, l, 0, maxTime, maxTime, first(c.op, l))
	}
}

// first is the cell of a window from 0 on that has all of a list.
func first(op int, l []tally.Sample) tally.Cell {
	n, _, _ := tally.Fold(op, l)
	return tally.Cell{Num: n}
}

// Of a window without a sample there is no cell, for Count too.
func TestP12_2WindowsWithoutASample(t *testing.T) {
	for _, op := range ops() {
		for _, l := range [][]tally.Sample{nil, {}, times(0, 9), times(19, 20, 30), times(-1), times(lowest), times(highest)} {
			wantWindows(t, op, l, 10, 19, 3)
		}
	}
	wantWindows(t, count, times(12), 10, 19, 3, tally.Cell{From: 10, Num: 1})
	wantWindows(t, count, times(13), 10, 19, 3, tally.Cell{From: 13, Num: 1})
	wantWindows(t, count, times(18), 10, 19, 3, tally.Cell{From: 16, Num: 1})
	wantWindows(t, count, times(10, 18), 10, 19, 3, tally.Cell{From: 10, Num: 1}, tally.Cell{From: 16, Num: 1})
}

// Each sample lies in one window: where that begins, it does; where it ends, it
// doesn't any more.
func TestP12_2Edges(t *testing.T) {
	l := times(lowest, -1, 0, 9, 10, 11, 12, 13, 15, 16, 17, 18, 18, 19, 20, highest)
	for _, c := range []struct {
		from, to, step int64
		want           []tally.Cell
	}{
		{10, 19, 3, []tally.Cell{{10, 1<<4 | 1<<5 | 1<<6}, {13, 1<<7 | 1<<8}, {16, 1<<9 | 1<<10 | 1<<11 | 1<<12}}},
		{10, 18, 3, []tally.Cell{{10, 1<<4 | 1<<5 | 1<<6}, {13, 1<<7 | 1<<8}, {16, 1<<9 | 1<<10}}},
		{10, 17, 3, []tally.Cell{{10, 1<<4 | 1<<5 | 1<<6}, {13, 1<<7 | 1<<8}, {16, 1 << 9}}},
		{10, 16, 3, []tally.Cell{{10, 1<<4 | 1<<5 | 1<<6}, {13, 1<<7 | 1<<8}}},
		{14, 20, 1, []tally.Cell{{15, 1 << 8}, {16, 1 << 9}, {17, 1 << 10}, {18, 1<<11 | 1<<12}, {19, 1 << 13}}},
		{14, 20, 5, []tally.Cell{{14, 1<<8 | 1<<9 | 1<<10 | 1<<11 | 1<<12}, {19, 1 << 13}}},
		{14, 20, 6, []tally.Cell{{14, 1<<8 | 1<<9 | 1<<10 | 1<<11 | 1<<12 | 1<<13}}},
		{14, 20, 7, []tally.Cell{{14, 1<<8 | 1<<9 | 1<<10 | 1<<11 | 1<<12 | 1<<13}}},
		{14, 20, highest, []tally.Cell{{14, 1<<8 | 1<<9 | 1<<10 | 1<<11 | 1<<12 | 1<<13}}},
		{0, 1, 1, []tally.Cell{{0, 1 << 2}}},
		{1, 9, 1, nil},
		{9, 9, 1, nil},
	} {
		wantWindows(t, sum, l, c.from, c.to, c.step, c.want...)
	}
}

func TestP12_2AtTheLastTimes(t *testing.T) {
	l := times(-1, 0, maxTime-2, maxTime-1, maxTime, maxTime+1, highest)
	wantWindows(t, sum, l, maxTime-3, maxTime, 2, tally.Cell{From: maxTime - 3, Num: 1 << 2}, tally.Cell{From: maxTime - 1, Num: 1 << 3})
	for _, step := range []int64{maxTime - 1, maxTime, maxTime + 1, highest - 1, highest} {
		wantWindows(t, sum, l, maxTime-1, maxTime, step, tally.Cell{From: maxTime - 1, Num: 1 << 3})
		wantWindows(t, sum, l, 1, maxTime, step, tally.Cell{From: 1, Num: 1<<2 | 1<<3})
		wantWindows(t, sum, l, maxTime, maxTime, step)
	}
	for _, step := range []int64{maxTime, maxTime + 1, highest} {
		wantWindows(t, sum, l, 0, maxTime, step, tally.Cell{From: 0, Num: 1<<1 | 1<<2 | 1<<3})
	}
	wantWindows(t, sum, l, 0, maxTime, maxTime-1, tally.Cell{From: 0, Num: 1<<1 | 1<<2}, tally.Cell{From: maxTime - 1, Num: 1 << 3})
}

// A span may be empty; then it has no window.
func TestP12_2EmptySpan(t *testing.T) {
	for _, op := range ops() {
		for _, at := range []int64{0, 5, maxTime - 1, maxTime} {
			for _, step := range []int64{1, 2, highest} {
				wantWindows(t, op, times(0, 5, 5, maxTime), at, at, step)
			}
		}
	}
}

func TestP12_2AsManyWindowsAsMayBe(t *testing.T) {
	for _, c := range []struct{ from, to, step int64 }{
		{0, 1024, 1}, {5, 1029, 1}, {0, 2048, 2}, {0, 2047, 2}, {0, 1024 * 7, 7},
		{maxTime - 1024, maxTime, 1}, {0, maxTime, maxTime / 1024}, {0, maxTime - 1, maxTime / 1024},
	} {
		l := times(c.from, c.to-1)
		last := c.from + 1023*c.step
		wantWindows(t, sum, l, c.from, c.to, c.step, tally.Cell{From: c.from, Num: 1}, tally.Cell{From: last, Num: 2})
	}
	var want []tally.Cell
	for i := range int64(maxWindows) {
		want = append(want, tally.Cell{From: 64 * i, Num: 64})
	}
	wantWindows(t, count, many(maxPoints, 1), 0, maxPoints, 64, want...)
	for _, c := range []struct{ from, to, step int64 }{
		{0, 1025, 1}, {5, 1030, 1}, {0, 2049, 2}, {0, 1024*7 + 1, 7}, {1, maxTime, 1}, {0, maxTime, 1},
		{maxTime - 1025, maxTime, 1}, {0, maxTime, maxTime/1024 - 1}, {0, maxTime/1024*1024 + 1 - 1024, maxTime/1024 - 1},
	} {
		for _, op := range ops() {
			wantWindowsError(t, op, nil, c.from, c.to, c.step, api.ErrLimit)
			wantWindowsError(t, op, times(c.from), c.from, c.to, c.step, api.ErrLimit)
			// ErrLimit is told ahead of ErrOver.
			wantWindowsError(t, op, []tally.Sample{{c.from, lowest}, {c.from, lowest}, {c.from, highest}}, c.from, c.to, c.step, api.ErrLimit)
		}
	}
}

func TestP12_2WindowsThatAreOver(t *testing.T) {
	l := []tally.Sample{{0, highest}, {1, 1}, {2, -1}, {3, -5}, {3, lowest}, {5, highest}}
	wantWindowsError(t, sum, l, 0, 6, 2, api.ErrOver)
	wantWindowsError(t, sum, l, 1, 6, 2, api.ErrOver)
	wantWindowsError(t, sum, l, 2, 6, 2, api.ErrOver)
	wantWindowsError(t, sum, l, 3, 4, 1, api.ErrOver)
	wantWindows(t, sum, l, 0, 3, 3, tally.Cell{From: 0, Num: highest})
	wantWindows(t, sum, l, 0, 6, 6, tally.Cell{From: 0, Num: highest - 6})
	wantWindowsError(t, delta, l, 3, 6, 3, api.ErrOver)
	wantWindows(t, delta, l, 0, 3, 2, tally.Cell{From: 0, Num: 1 - highest}, tally.Cell{From: 2, Num: 0})
	// Samples that lie in no window don't matter.
	wantWindows(t, sum, l, 1, 3, 2, tally.Cell{From: 1, Num: 0})
	wantWindows(t, sum, l, 4, 6, 1, tally.Cell{From: 5, Num: highest})
	for _, op := range []int{count, least, most} {
		if _, e := tally.Windows(op, l, 0, 6, 2); e != api.OK {
			t.Errorf("Windows(%d): error %d", op, e)
		}
	}
}

func TestP12_2WindowsOfWrongArguments(t *testing.T) {
	for _, op := range ops() {
		for _, l := range [][]tally.Sample{nil, times(5), {{0, lowest}, {0, lowest}, {0, highest}}} {
			for _, from := range []int64{-1, -maxTime, lowest} {
				wantWindowsError(t, op, l, from, 9, 1, api.ErrArg)
				wantWindowsError(t, op, l, from, from, 1, api.ErrArg)
				wantWindowsError(t, op, l, from, maxTime, highest, api.ErrArg)
			}
			for _, span := range [][]int64{{1, 0}, {5, 4}, {maxTime, maxTime - 1}, {0, -1}, {0, lowest}, {maxTime, 0}, {highest, lowest}, {lowest, highest}} {
				wantWindowsError(t, op, l, span[0], span[1], 1, api.ErrArg)
			}
			for _, to := range []int64{maxTime + 1, highest} {
				wantWindowsError(t, op, l, 0, to, highest, api.ErrArg)
				wantWindowsError(t, op, l, 0, to, 1, api.ErrArg)
				wantWindowsError(t, op, l, to, to, 1, api.ErrArg)
			}
			for _, step := range []int64{0, -1, -2, lowest} {
				wantWindowsError(t, op, l, 0, 9, step, api.ErrArg)
				wantWindowsError(t, op, l, 0, maxTime, step, api.ErrArg)
				wantWindowsError(t, op, l, 9, 9, step, api.ErrArg)
			}
		}
		wantWindowsError(t, op, many(maxPoints+1, 0), 0, 9, 1, api.ErrArg)
		wantWindowsError(t, op, many(maxPoints+1, 0), 0, 0, 1, api.ErrArg)
		wantWindowsError(t, op, many(maxPoints+1, 0), 0, maxTime, 1, api.ErrArg)
	}
	for _, op := range wrongOps() {
		for _, l := range [][]tally.Sample{nil, times(5), many(maxPoints+1, 0)} {
			wantWindowsError(t, op, l, 0, 9, 1, api.ErrArg)
			wantWindowsError(t, op, l, 0, 0, 1, api.ErrArg)
			wantWindowsError(t, op, l, 0, maxTime, 1, api.ErrArg)
		}
	}
}

// As many samples as may be are counted among them, also those that lie in no
// window.
func TestP12_2WindowsOfAsManyAsMayBe(t *testing.T) {
	wantWindows(t, sum, many(maxPoints, 1), 0, maxPoints, maxPoints, tally.Cell{From: 0, Num: maxPoints})
	wantWindows(t, sum, many(maxPoints, 1), maxPoints-2, maxTime, maxTime, tally.Cell{From: maxPoints - 2, Num: 2})
	l := many(maxPoints, 1)
	for i := range l {
		l[i].Time = 7
	}
	wantWindows(t, count, l, 0, maxWindows, 1, tally.Cell{From: 7, Num: maxPoints})
	wantWindows(t, count, l, 8, maxWindows, 1)
}
