package chain_test

import (
	"math"
	"slices"
	"strings"
	"testing"

	"slackwater/api"
	"slackwater/chain"
)

// The limits and the kinds stand here as numbers, so that the tests hold them,
// too.
const (
	maxWall = 1 << 62
	maxPart = 1<<32 - 1
	maxNote = 256
)

const (
	sample = 1
	note   = 2
	gone   = 3
)

// dice throws the same numbers in each run.
type dice uint64

func (d *dice) next() uint64 {
	*d = *d*6364136223846793005 + 1442695040888963407
	x := uint64(*d)
	return x ^ x>>29
}

func (d *dice) below(n int) int { return int(d.next() >> 8 % uint64(n)) }

func at(wall int64, tick, mark uint32) api.Stamp {
	return api.Stamp{Wall: wall, Tick: tick, Mark: mark}
}

func num(wall, n int64) chain.Version {
	return chain.Version{At: at(wall, 0, 0), Kind: sample, Num: n}
}

func text(wall int64, s string) chain.Version {
	return chain.Version{At: at(wall, 0, 0), Kind: note, Text: s}
}

func none(wall int64) chain.Version {
	return chain.Version{At: at(wall, 0, 0), Kind: gone}
}

// chainOf puts versions, one behind the other.
func chainOf(t *testing.T, versions ...chain.Version) []chain.Version {
	t.Helper()
	var l []chain.Version
	for _, v := range versions {
		put, e := chain.Put(l, v)
		if e != api.OK {
			t.Fatalf("Put(%v): error %d", v, e)
		}
		l = put
	}
	return l
}

func wantList(t *testing.T, got []chain.Version, want ...chain.Version) {
	t.Helper()
	if !slices.Equal(got, want) {
		t.Errorf("versions %v, want %v", got, want)
	}
}

func wantGet(t *testing.T, l []chain.Version, s api.Stamp, want chain.Version) {
	t.Helper()
	if v, ok := chain.Get(l, s); !ok || v != want {
		t.Errorf("Get of %v at %v: %v, %v, want %v", l, s, v, ok, want)
	}
}

func wantNone(t *testing.T, l []chain.Version, s api.Stamp) {
	t.Helper()
	if v, ok := chain.Get(l, s); ok || v != (chain.Version{}) {
		t.Errorf("Get of %v at %v: %v, %v, want none", l, s, v, ok)
	}
}

func wantError(t *testing.T, l []chain.Version, v chain.Version, want api.Errno) {
	t.Helper()
	before := slices.Clone(l)
	put, e := chain.Put(l, v)
	if e != want || len(put) != 0 {
		t.Errorf("Put of %v: %d versions, error %d, want error %d", v.At, len(put), e, want)
	}
	wantList(t, l, before...)
}

// rightVersions are versions that may be, at the edges of their kinds.
func rightVersions() []chain.Version {
	return []chain.Version{
		{Kind: sample},
		{Kind: sample, Num: 1},
		{Kind: sample, Num: -1},
		{Kind: sample, Num: math.MaxInt64},
		{Kind: sample, Num: math.MinInt64},
		{Kind: note},
		{Kind: note, Text: "a"},
		{Kind: note, Text: "\x00\xff\n\""},
		{Kind: note, Text: strings.Repeat("a", maxNote-1)},
		{Kind: note, Text: strings.Repeat("a", maxNote)},
		{Kind: note, Text: strings.Repeat("\u00e4", maxNote/2)},
		{Kind: gone},
	}
}

// wrongVersions are versions that may not be, at right stamps.
func wrongVersions() []chain.Version {
	l := []chain.Version{
		{Kind: sample, Text: "a"},
		{Kind: sample, Num: 1, Text: "a"},
		{Kind: sample, Text: "\x00"},
		{Kind: note, Num: 1},
		{Kind: note, Num: -1, Text: "a"},
		{Kind: note, Num: 1 << 32},
		{Kind: note, Num: math.MinInt64},
		{Kind: note, Text: strings.Repeat("a", maxNote+1)},
		{Kind: note, Text: strings.Repeat("\u00e4", maxNote/2) + "a"},
		{Kind: note, Text: strings.Repeat("a", 1<<20)},
		{Kind: gone, Num: 1},
		{Kind: gone, Num: -1},
		{Kind: gone, Num: 1 << 32},
		{Kind: gone, Text: "a"},
		{Kind: gone, Text: "\x00"},
		{Kind: gone, Num: 1, Text: "a"},
	}
	for _, kind := range []int{0, 4, -1, -2, -3, 1<<8 + 1, 1<<32 + 1, 1<<32 + 2, math.MinInt, math.MaxInt} {
		l = append(l, chain.Version{Kind: kind})
	}
	return l
}

// rightStamps are stamps that may be, in order.
func rightStamps() []api.Stamp {
	return []api.Stamp{
		at(0, 0, 0), at(0, 0, 1), at(0, 0, maxPart), at(0, 1, 0), at(0, maxPart, maxPart),
		at(1, 0, 0), at(1, 0, 7), at(1, 2, 0), at(1<<32, 0, 0), at(maxWall-1, maxPart, maxPart),
		at(maxWall, 0, 0), at(maxWall, maxPart, maxPart-1), at(maxWall, maxPart, maxPart),
	}
}

// lowStamps and highStamps are stamps that may not be, ahead of all that may
// be and behind them.
func lowStamps() []api.Stamp {
	return []api.Stamp{at(-1, maxPart, maxPart), at(-1, 0, 0), at(-maxWall, 1, 1), at(math.MinInt64, 0, 0)}
}

func highStamps() []api.Stamp {
	return []api.Stamp{at(maxWall+1, 0, 0), at(math.MaxInt64, 0, 0), at(math.MaxInt64, maxPart, maxPart)}
}

func TestP10_1Right(t *testing.T) {
	for _, s := range rightStamps() {
		for _, v := range rightVersions() {
			v.At = s
			if !chain.Right(v) {
				t.Errorf("Right of the kind %d at %v: false", v.Kind, s)
			}
		}
		for _, v := range wrongVersions() {
			v.At = s
			if chain.Right(v) {
				t.Errorf("Right of the kind %d, %d, %d bytes: true", v.Kind, v.Num, len(v.Text))
			}
		}
	}
	for _, s := range append(lowStamps(), highStamps()...) {
		for _, v := range rightVersions() {
			v.At = s
			if chain.Right(v) {
				t.Errorf("Right of the kind %d at %v: true", v.Kind, s)
			}
		}
	}
}

// The example of the chapter.
func TestP10_1P10_2Example(t *testing.T) {
	l := chainOf(t, num(1, 5), none(3))
	wantNone(t, l, at(0, 0, 0))
	wantGet(t, l, at(2, 0, 0), num(1, 5))
	wantNone(t, l, at(3, 0, 0))
	wantList(t, chain.Cut(l, at(2, 0, 0)), num(1, 5), none(3))
	wantList(t, chain.Cut(l, at(3, 0, 0)))
}

func TestP10_1PutToAnyPlace(t *testing.T) {
	l := chainOf(t, num(4, 40))
	l = chainOf(t, append(l, text(8, "b"))...)
	wantList(t, l, num(4, 40), text(8, "b"))
	for _, c := range []struct {
		v    chain.Version
		want []chain.Version
	}{
		{num(0, 1), []chain.Version{num(0, 1), num(4, 40), text(8, "b")}},
		{none(3), []chain.Version{none(3), num(4, 40), text(8, "b")}},
		{text(5, ""), []chain.Version{num(4, 40), text(5, ""), text(8, "b")}},
		{none(7), []chain.Version{num(4, 40), none(7), text(8, "b")}},
		{num(9, -1), []chain.Version{num(4, 40), text(8, "b"), num(9, -1)}},
		{none(maxWall), []chain.Version{num(4, 40), text(8, "b"), none(maxWall)}},
	} {
		put, e := chain.Put(l, c.v)
		if e != api.OK {
			t.Errorf("Put(%v): error %d", c.v, e)
		}
		wantList(t, put, c.want...)
	}
}

func TestP10_1PutTakesAllThatIsRight(t *testing.T) {
	for _, v := range rightVersions() {
		for _, s := range rightStamps() {
			v.At = s
			l := chainOf(t, v)
			wantList(t, l, v)
			if v.Kind == gone {
				wantNone(t, l, s)
			} else {
				wantGet(t, l, s, v)
			}
		}
	}
}

// Stamps that differ in one part alone are others.
func TestP10_1PutOfNearStamps(t *testing.T) {
	var want []chain.Version
	for i, s := range rightStamps() {
		want = append(want, chain.Version{At: s, Kind: sample, Num: int64(i)})
	}
	back := slices.Clone(want)
	slices.Reverse(back)
	l := chainOf(t, back...)
	wantList(t, l, want...)
	for _, v := range want {
		wantGet(t, l, v.At, v)
		wantError(t, l, v, api.ErrTwice)
	}
}

func TestP10_1PutErrArg(t *testing.T) {
	l := chainOf(t, num(1, 5), text(2, "a"), none(3))
	for _, wall := range []int64{0, 1, 2, 3, 4} {
		for _, v := range wrongVersions() {
			v.At.Wall = wall
			// Where there is one with its stamp, too, ErrArg is named first.
			wantError(t, l, v, api.ErrArg)
			wantError(t, nil, v, api.ErrArg)
		}
	}
	for _, s := range append(lowStamps(), highStamps()...) {
		for _, v := range rightVersions() {
			v.At = s
			wantError(t, l, v, api.ErrArg)
			wantError(t, nil, v, api.ErrArg)
		}
	}
}

func TestP10_1PutErrTwice(t *testing.T) {
	l := chainOf(t, num(1, 5), text(2, "a"), none(3))
	for _, wall := range []int64{1, 2, 3} {
		for _, v := range rightVersions() {
			v.At.Wall = wall
			wantError(t, l, v, api.ErrTwice)
		}
	}
	// The same version isn't put twice, either.
	for _, v := range l {
		wantError(t, l, v, api.ErrTwice)
	}
}

func TestP10_1Get(t *testing.T) {
	l := chainOf(t, num(2, 5), none(4), text(6, ""), num(8, 0))
	for _, c := range []struct {
		s     api.Stamp
		place int // of what stands there; -1: nothing does
	}{
		{at(0, 0, 0), -1},
		{at(1, maxPart, maxPart), -1},
		{at(2, 0, 0), 0},
		{at(2, 0, 1), 0},
		{at(3, maxPart, maxPart), 0},
		{at(4, 0, 0), -1},
		{at(5, maxPart, maxPart), -1},
		{at(6, 0, 0), 2},
		{at(7, maxPart, maxPart), 2},
		{at(8, 0, 0), 3},
		{at(maxWall, maxPart, maxPart), 3},
	} {
		if c.place < 0 {
			wantNone(t, l, c.s)
		} else {
			wantGet(t, l, c.s, l[c.place])
		}
	}
}

// Get is of any stamp, also of those that aren't right.
func TestP10_1GetAtStampsThatAreNotRight(t *testing.T) {
	l := chainOf(t, num(0, 5), num(maxWall, 6))
	for _, s := range lowStamps() {
		wantNone(t, l, s)
	}
	for _, s := range highStamps() {
		wantGet(t, l, s, num(maxWall, 6))
		wantNone(t, chainOf(t, num(0, 5), none(maxWall)), s)
	}
}

func TestP10_1GetOfAnEmptyChain(t *testing.T) {
	for _, s := range slices.Concat(lowStamps(), rightStamps(), highStamps()) {
		wantNone(t, nil, s)
		wantNone(t, []chain.Version{}, s)
	}
}

func TestP10_2Cut(t *testing.T) {
	l := chainOf(t, num(2, 5), none(4), text(6, "a"), num(8, 0), none(9))
	for _, c := range []struct {
		s    api.Stamp
		from int // the place of the first version that stays
	}{
		{at(0, 0, 0), 0},
		{at(1, maxPart, maxPart), 0},
		{at(2, 0, 0), 0},
		{at(3, maxPart, maxPart), 0},
		{at(4, 0, 0), 2},
		{at(4, 0, 1), 2},
		{at(5, maxPart, maxPart), 2},
		{at(6, 0, 0), 2},
		{at(7, maxPart, maxPart), 2},
		{at(8, 0, 0), 3},
		{at(8, maxPart, maxPart), 3},
		{at(9, 0, 0), 5},
		{at(maxWall, maxPart, maxPart), 5},
	} {
		wantList(t, chain.Cut(l, c.s), l[c.from:]...)
	}
	for _, s := range lowStamps() {
		wantList(t, chain.Cut(l, s), l...)
	}
	for _, s := range highStamps() {
		wantList(t, chain.Cut(l, s))
		wantList(t, chain.Cut(l[:4], s), l[3])
	}
}

// Of several Gones that don't stand behind the stamp none stays; what stands
// ahead of a Gone doesn't come back.
func TestP10_2CutOfGones(t *testing.T) {
	l := chainOf(t, num(1, 5), none(2), none(3), none(5), num(6, 7), none(7))
	wantList(t, chain.Cut(l, at(1, 0, 0)), l...)
	wantList(t, chain.Cut(l, at(2, 0, 0)), l[2:]...)
	wantList(t, chain.Cut(l, at(3, 0, 0)), l[3:]...)
	wantList(t, chain.Cut(l, at(4, 0, 0)), l[3:]...)
	wantList(t, chain.Cut(l, at(5, 0, 0)), l[4:]...)
	wantList(t, chain.Cut(l, at(6, 0, 0)), l[4:]...)
	wantList(t, chain.Cut(l, at(7, 0, 0)))
	wantList(t, chain.Cut(chainOf(t, none(1)), at(0, 0, 0)), none(1))
	wantList(t, chain.Cut(chainOf(t, none(1)), at(1, 0, 0)))
}
