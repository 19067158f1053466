package chain_test

import (
	"math"
	"slices"
	"testing"

	"slackwater/api"
	"slackwater/chain"
)

// Tests of P10.3, and of the rules that hold everywhere: chains held against a
// model that knows of no order but what it looks for.

// stands is what stands at a stamp among versions in any order.
func stands(versions []chain.Version, s api.Stamp) (chain.Version, bool) {
	found, best := false, chain.Version{}
	for _, v := range versions {
		if !later(v.At, s) && (!found || later(v.At, best.At)) {
			found, best = true, v
		}
	}
	if !found || best.Kind == gone {
		return chain.Version{}, false
	}
	return best, true
}

// later says whether a stands behind b.
func later(a, b api.Stamp) bool {
	if a.Wall != b.Wall {
		return a.Wall > b.Wall
	}
	if a.Tick != b.Tick {
		return a.Tick > b.Tick
	}
	return a.Mark > b.Mark
}

// wantStands holds that a chain tells of versions what stands at a stamp.
func wantStands(t *testing.T, l, versions []chain.Version, s api.Stamp) {
	t.Helper()
	if want, ok := stands(versions, s); ok {
		wantGet(t, l, s, want)
	} else {
		wantNone(t, l, s)
	}
}

// left is what P10.2 leaves of versions that rise.
func left(versions []chain.Version, s api.Stamp) []chain.Version {
	var l []chain.Version
	for i, v := range versions {
		last := i+1 == len(versions) || later(versions[i+1].At, s)
		if later(v.At, s) || last && v.Kind != gone {
			l = append(l, v)
		}
	}
	return l
}

// orders are all orders of versions.
func orders(versions []chain.Version) [][]chain.Version {
	if len(versions) == 0 {
		return [][]chain.Version{nil}
	}
	var all [][]chain.Version
	for i, v := range versions {
		rest := slices.Delete(slices.Clone(versions), i, i+1)
		for _, l := range orders(rest) {
			all = append(all, append([]chain.Version{v}, l...))
		}
	}
	return all
}

func TestP10_3AnyOrder(t *testing.T) {
	want := []chain.Version{num(1, 5), none(2), text(3, "a"), num(3, 6), none(5), text(6, "")}
	want[3].At.Mark = 1
	for _, l := range orders(want) {
		wantList(t, chainOf(t, l...), want...)
	}
}

// kinds are a version of each kind at one stamp.
func kinds(wall int64) []chain.Version {
	return []chain.Version{num(wall, wall), text(wall, "a"), none(wall)}
}

// Each chain of four versions, cut at each stamp, tells what it told, also
// when the versions behind the stamp are put only after the Cut.
func TestP10_3CutThenPut(t *testing.T) {
	var l [4]chain.Version
	for i := range 3 * 3 * 3 * 3 {
		for j, n := 0, i; j < len(l); j, n = j+1, n/3 {
			l[j] = kinds(int64(2*j + 1))[n%3]
		}
		for cut := range int64(2*len(l) + 1) {
			cutThenPut(t, l[:], at(cut, 0, 0))
		}
	}
}

func cutThenPut(t *testing.T, versions []chain.Version, s api.Stamp) {
	t.Helper()
	behind := len(versions)
	for behind > 0 && later(versions[behind-1].At, s) {
		behind--
	}
	whole := chainOf(t, versions...)
	for _, more := range orders(versions[behind:]) {
		l := chain.Cut(chainOf(t, versions[:behind]...), s)
		for _, v := range more {
			put, e := chain.Put(l, v)
			if e != api.OK {
				t.Fatalf("Put(%v) behind a Cut at %v: error %d", v, s, e)
			}
			l = put
		}
		wantList(t, l, chain.Cut(whole, s)...)
		for wall := s.Wall; wall < 10; wall++ {
			wantStands(t, l, versions, at(wall, 0, 0))
			wantStands(t, whole, versions, at(wall, 0, 0))
		}
	}
}

// someStamp is one of few, so that stamps meet often.
func (d *dice) someStamp() api.Stamp {
	return at(int64(d.below(6)), uint32(d.below(3)), uint32(d.below(3)))
}

func (d *dice) someVersion() chain.Version {
	v := kinds(int64(d.below(5)))[d.below(3)]
	v.At = d.someStamp()
	return v
}

// Chains by random calls against a model that keeps all versions as they came:
// a chain is cut at stamps that rise, and told of from the last one on.
func TestP10_3Model(t *testing.T) {
	for seed := range 300 {
		d := dice(seed)
		var l, all []chain.Version
		safe := api.Stamp{}
		for range 60 {
			if s := d.someStamp(); d.below(12) == 0 && later(s, safe) {
				l, safe = chain.Cut(l, s), s
			} else if v := d.someVersion(); later(v.At, safe) {
				l, all = putBoth(t, l, all, v)
			}
			if s := d.someStamp(); !later(safe, s) {
				wantStands(t, l, all, s)
			}
		}
	}
}

// putBoth puts a version to a chain and to all versions.
func putBoth(t *testing.T, l, all []chain.Version, v chain.Version) ([]chain.Version, []chain.Version) {
	t.Helper()
	for _, a := range all {
		if a.At == v.At {
			wantError(t, l, v, api.ErrTwice)
			return l, all
		}
	}
	put, e := chain.Put(l, v)
	if e != api.OK || len(put) != len(l)+1 {
		t.Fatalf("Put(%v) to %v: %v, error %d", v, l, put, e)
	}
	return put, append(all, v)
}

// A chain at each of whose places a search may end.
func TestP10_3LongChains(t *testing.T) {
	d := dice(1)
	for n := range 70 {
		var l, all []chain.Version
		for wall := range int64(n) {
			all = append(all, kinds(2*wall + 1)[d.below(3)])
		}
		for _, i := range d.order(n) {
			put, e := chain.Put(l, all[i])
			if e != api.OK {
				t.Fatalf("Put(%v): error %d", all[i], e)
			}
			l = put
		}
		wantList(t, l, all...)
		for wall := range int64(2*n + 2) {
			s := at(wall, 0, 0)
			wantStands(t, l, all, s)
			wantList(t, chain.Cut(l, s), left(all, s)...)
		}
	}
}

// order is the numbers below n in some order.
func (d *dice) order(n int) []int {
	var l []int
	for i := range n {
		l = slices.Insert(l, d.below(i+1), i)
	}
	return l
}

// Of lists that are no chains nothing is promised but that the calls end.
func TestR1NoChains(t *testing.T) {
	d := dice(2)
	walls := []int64{math.MinInt64, -1, 0, 1, 2, maxWall, maxWall + 1, math.MaxInt64}
	for range 2000 {
		l := make([]chain.Version, d.below(9))
		for i := range l {
			l[i] = chain.Version{At: at(walls[d.below(len(walls))], uint32(d.below(2)), 0), Kind: d.below(6) - 1, Num: int64(d.below(2))}
		}
		s := at(walls[d.below(len(walls))], 0, 0)
		chain.Put(l, num(s.Wall, 1))
		chain.Get(l, s)
		chain.Cut(l, s)
	}
}

// roomy is a chain with room behind its end in which there is something.
func roomy(t *testing.T, room int, versions ...chain.Version) []chain.Version {
	t.Helper()
	l := chainOf(t, versions...)
	for i := range room {
		l = append(l, num(100+int64(i), -7))
	}
	return l[:len(versions)]
}

// spoil writes into all of a list, and into the room behind its end.
func spoil(l []chain.Version) {
	l = l[:cap(l)]
	for i := range l {
		l[i] = text(50, "spoilt")
	}
}

func TestR3PutSharesNothing(t *testing.T) {
	versions := []chain.Version{num(2, 5), none(4), text(6, "a")}
	for _, v := range []chain.Version{num(1, 1), num(3, 1), num(5, 1), num(7, 1)} {
		want := chainOf(t, append(slices.Clone(versions), v)...)
		for _, room := range []int{0, 1, 2, 9} {
			l := roomy(t, room, versions...)
			before := slices.Clone(l[:cap(l)])
			put, _ := chain.Put(l, v)
			wantList(t, l[:cap(l)], before...)
			spoil(l)
			wantList(t, put, want...)

			l = roomy(t, room, versions...)
			before = slices.Clone(l[:cap(l)])
			put, _ = chain.Put(l, v)
			spoil(put)
			wantList(t, l[:cap(l)], before...)
		}
	}
}

func TestR3CutSharesNothing(t *testing.T) {
	versions := []chain.Version{num(2, 5), none(4), text(6, "a")}
	for wall := range int64(8) {
		s := at(wall, 0, 0)
		for _, room := range []int{0, 1, 2, 9} {
			l := roomy(t, room, versions...)
			before := slices.Clone(l[:cap(l)])
			cut := chain.Cut(l, s)
			want := slices.Clone(cut)
			wantList(t, l[:cap(l)], before...)
			spoil(l)
			wantList(t, cut, want...)

			l = roomy(t, room, versions...)
			before = slices.Clone(l[:cap(l)])
			spoil(chain.Cut(l, s))
			wantList(t, l[:cap(l)], before...)
		}
	}
}

func TestR4NilAndEmptyLists(t *testing.T) {
	for _, l := range [][]chain.Version{nil, {}, roomy(t, 3)} {
		put, e := chain.Put(l, num(1, 5))
		if e != api.OK {
			t.Errorf("Put: error %d", e)
		}
		wantList(t, put, num(1, 5))
		wantError(t, l, chain.Version{}, api.ErrArg)
		wantNone(t, l, at(1, 0, 0))
		wantList(t, chain.Cut(l, at(1, 0, 0)))
	}
}

// Two chains of one beginning go on by themselves.
func TestR5ChainsOfOneBeginning(t *testing.T) {
	l := chainOf(t, num(1, 1), num(5, 5))
	a, _ := chain.Put(l, num(3, 30))
	b, _ := chain.Put(l, none(3))
	cut := chain.Cut(l, at(5, 0, 0))
	wantList(t, l, num(1, 1), num(5, 5))
	wantList(t, a, num(1, 1), num(3, 30), num(5, 5))
	wantList(t, b, num(1, 1), none(3), num(5, 5))
	wantList(t, cut, num(5, 5))
	again, _ := chain.Put(l, num(3, 30))
	wantList(t, again, a...)
}
