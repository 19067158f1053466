package store_test

import (
	"fmt"
	"math"
	"slices"
	"testing"

	"slackwater/api"
	"slackwater/label"
	"slackwater/match"
	"slackwater/stamp"
	"slackwater/store"
)

// Tests of P11.4, and of the rules that hold everywhere: stores held against a
// model that keeps all that was ever put, as it came.

// dice throws the same numbers in each run.
type dice uint64

func (d *dice) next() uint64 {
	*d = *d*6364136223846793005 + 1442695040888963407
	x := uint64(*d)
	return x ^ x>>29
}

func (d *dice) below(n int) int { return int(d.next() >> 8 % uint64(n)) }

// The dice throw few stamps, sets and times, so that they meet often.

func (d *dice) stamp() api.Stamp {
	return api.Stamp{Wall: int64(d.below(6)), Tick: uint32(d.below(2)), Mark: uint32(d.below(2))}
}

func (d *dice) time() int64 { return int64(d.below(5)) }

func (d *dice) set() string {
	l := []string{"{}", `{a="1"}`, `{a="1",b="2"}`, `{a="12"}`, `{b="2"}`}
	return l[d.below(len(l))]
}

func (d *dice) rules() string {
	l := []string{"{}", "{}", `{a="1"}`, `{a^="1"}`, `{a=""}`, `{b!="2"}`, `{a*="2",b=""}`}
	return l[d.below(len(l))]
}

func (d *dice) entry() entry {
	of, time := d.set(), d.time()
	switch d.below(3) {
	case 0:
		return entry{none(of, time), d.stamp()}
	case 1:
		return entry{text(of, time, fmt.Sprint(d.below(3))), d.stamp()}
	}
	return entry{num(of, time, int64(d.below(3))), d.stamp()}
}

// mix lays entries in another order.
func (d *dice) mix(l []entry) []entry {
	l = slices.Clone(l)
	for i := range l {
		j := d.below(i + 1)
		l[i], l[j] = l[j], l[i]
	}
	return l
}

func ofOnePoint(a, b entry) bool {
	return slices.Equal(a.w.Set, b.w.Set) && a.w.Time == b.w.Time
}

// stands is what stands at a stamp among entries, in order.
func stands(l []entry, asked []match.Rule, from, to int64, st api.Stamp) []entry {
	var found []entry
	for i, p := range l {
		if p.w.Kind == gone || stamp.Compare(p.s, st) > 0 || p.w.Time < from || p.w.Time >= to || !match.All(asked, p.w.Set) {
			continue
		}
		hidden := slices.IndexFunc(l, func(q entry) bool {
			return ofOnePoint(p, q) && stamp.Compare(q.s, p.s) > 0 && stamp.Compare(q.s, st) <= 0
		}) >= 0
		if !hidden {
			found = append(found, l[i])
		}
	}
	slices.SortFunc(found, inOrder)
	return found
}

func wantStands(t *testing.T, s *store.Store, l []entry, asked string, from, to int64, st api.Stamp) {
	t.Helper()
	wantScan(t, s, asked, from, to, st, stands(l, rules(asked), from, to, st)...)
}

// wantNothingMore holds that a store keeps nothing of a point that nobody sees
// from a stamp and a time on.
func wantNothingMore(t *testing.T, s *store.Store, safe api.Stamp, horizon int64) {
	t.Helper()
	kept := keptOf(t, s)
	for i, p := range kept {
		last := i+1 == len(kept) || !ofOnePoint(p, kept[i+1]) || stamp.Compare(kept[i+1].s, safe) > 0
		old := stamp.Compare(p.s, safe) <= 0
		if p.w.Time < horizon || old && (!last || p.w.Kind == gone) {
			t.Errorf("kept behind a Cut at %v and a Retain of %d: %v", safe, horizon, p)
		}
	}
}

// Of all small chains at two points each Cut leaves all that is seen from its
// stamp on.
func TestP11_4Cut(t *testing.T) {
	kinds := func(of string, i int) api.Write {
		return []api.Write{num(of, 5, int64(i)), text(of, 5, "a"), none(of, 5)}[i%3]
	}
	for i := range 3 * 3 * 3 * 3 {
		l := []entry{
			{kinds("{}", i), at(1)}, {kinds("{}", i/3), at(3)},
			{kinds(`{a="1"}`, i/9), at(2)}, {kinds(`{a="1"}`, i/27), at(3)},
		}
		for cut := range int64(6) {
			s := storeOf(t, l...)
			s.Cut(at(cut))
			for wall := cut; wall < 6; wall++ {
				wantStands(t, s, l, "{}", 0, 9, at(wall))
			}
			wantNothingMore(t, s, at(cut), 0)
		}
	}
}

func TestP11_4Retain(t *testing.T) {
	var l []entry
	for i := range int64(8) {
		l = append(l, entry{num("{}", i, i), at(i)}, entry{none("{}", i), at(i + 2)}, entry{text(`{a="1"}`, i, "a"), at(8 - i)})
	}
	for time := range int64(10) {
		s := storeOf(t, l...)
		s.Retain(time)
		for from := time; from < 10; from++ {
			for wall := range int64(11) {
				wantStands(t, s, l, "{}", from, 10, at(wall))
			}
		}
		wantScan(t, s, "{}", 0, time, lastStamp())
		wantNothingMore(t, s, at(-1), time)
	}
}

// Stores by random calls against the model: cut and retained at stamps and
// times that rise, put to behind these, scanned from these on.
func TestP11_4Model(t *testing.T) {
	for seed := range 200 {
		d := dice(seed)
		s := store.New()
		var all []entry
		safe, horizon := at(-1), int64(0)
		for range 120 {
			switch d.below(16) {
			case 0:
				if st := d.stamp(); stamp.Compare(st, safe) > 0 && d.below(2) == 0 {
					s.Cut(st)
					safe = st
				}
			case 1:
				if d.below(4) == 0 {
					horizon = max(horizon, d.time())
					s.Retain(horizon)
				}
			case 2, 3, 4, 5:
				if st := d.stamp(); stamp.Compare(st, safe) >= 0 {
					wantStands(t, s, all, d.rules(), max(horizon, d.time()), d.time()+1, st)
				}
			default:
				if p := d.entry(); stamp.Compare(p.s, safe) > 0 && p.w.Time >= horizon {
					all = putBoth(t, s, all, p)
				}
			}
		}
		wantNothingMore(t, s, safe, horizon)
		wantStands(t, s, all, "{}", horizon, 9, safe)
		wantStands(t, s, all, "{}", horizon, 9, lastStamp())
	}
}

// putBoth puts an entry to a store and to the model.
func putBoth(t *testing.T, s *store.Store, all []entry, p entry) []entry {
	t.Helper()
	twice := slices.ContainsFunc(all, func(q entry) bool { return ofOnePoint(p, q) && p.s == q.s })
	before := s.Len()
	e := s.Put(p.w, p.s)
	switch {
	case twice && (e != api.ErrTwice || s.Len() != before):
		t.Fatalf("Put(%v) twice: error %d", p, e)
	case !twice && (e != api.OK || s.Len() != before+1):
		t.Fatalf("Put(%v): error %d", p, e)
	case twice:
		return all
	}
	return append(all, p)
}

// Without Cuts all is kept that was put, in whatever order.
func TestP11_3KeptModel(t *testing.T) {
	for seed := range 100 {
		d := dice(seed)
		s := store.New()
		var all []entry
		for range 150 {
			all = putBoth(t, s, all, d.entry())
		}
		want := slices.Clone(all)
		slices.SortFunc(want, inOrder)
		wantKept(t, s, want...)
		other := storeOf(t, d.mix(all)...)
		wantKept(t, other, want...)
		for range 20 {
			wantStands(t, other, all, d.rules(), d.time(), d.time(), d.stamp())
		}
	}
}

// One point with so many versions that each of them has another place to be
// put to, in several orders.
func TestP11_1PutToAnyPlace(t *testing.T) {
	d := dice(1)
	for n := range 40 {
		var want []entry
		for i := range int64(n) {
			want = append(want, entry{num("{}", 5, i), at(2 * i)})
		}
		back := slices.Clone(want)
		slices.Reverse(back)
		for _, l := range [][]entry{want, back, d.mix(want), d.mix(want)} {
			s := storeOf(t, l...)
			wantKept(t, s, want...)
			for i := range int64(2 * n) {
				wantAll(t, s, at(i), want[i/2])
			}
			for _, p := range want {
				wantError(t, s, p.w, p.s, api.ErrTwice)
			}
		}
	}
}

// A store may have all of its versions at one point, and is not slow then.
func TestP11_1PutToOnePoint(t *testing.T) {
	s := store.New()
	for i := range int64(maxPoints) {
		if e := s.Put(num("{}", 5, i), at(i)); e != api.OK {
			t.Fatalf("the %d-th Put: error %d", i, e)
		}
	}
	if e := s.Put(num("{}", 5, 0), at(maxPoints)); e != api.ErrFull {
		t.Errorf("Put to a full store: error %d", e)
	}
	for _, i := range []int64{0, 1, maxPoints / 2, maxPoints - 1} {
		wantAll(t, s, at(i), entry{num("{}", 5, i), at(i)})
	}
	s.Cut(at(maxPoints - 2))
	wantKept(t, s, entry{num("{}", 5, maxPoints-2), at(maxPoints - 2)}, entry{num("{}", 5, maxPoints-1), at(maxPoints - 1)})
}

func TestR1NilStore(t *testing.T) {
	var s *store.Store
	for _, w := range slices.Concat(rightWrites(), wrongWrites()) {
		for _, st := range slices.Concat(rightStamps(), wrongStamps()) {
			if e := s.Put(w, st); e != api.ErrNil {
				t.Errorf("Put to a nil store: error %d", e)
			}
		}
	}
	s.Cut(lastStamp())
	s.Retain(math.MaxInt64)
	wantKept(t, s)
	wantAll(t, s, lastStamp())
}

// Of a store that New didn't make nothing is promised but that its calls end.
func TestR1StoresNotMadeByNew(t *testing.T) {
	for _, first := range []func(*store.Store){
		func(s *store.Store) { s.Put(num("{}", 5, 1), at(1)) },
		func(s *store.Store) { s.Cut(at(1)) },
		func(s *store.Store) { s.Retain(1) },
		func(s *store.Store) { s.Scan(nil, 0, 1, at(1)) },
		func(s *store.Store) { s.Kept() },
		func(s *store.Store) { s.Len() },
	} {
		var s store.Store
		first(&s)
		s.Put(num(`{a="1"}`, 5, 1), at(1))
		other := s
		s.Put(num(`{a="1"}`, 5, 1), at(0))
		other.Cut(lastStamp())
		other.Retain(math.MaxInt64)
		for _, one := range []*store.Store{&s, &other} {
			one.Put(num(`{b="1"}`, 5, 1), at(2))
			one.Scan(nil, 0, maxTime, lastStamp())
			one.Kept()
			one.Len()
			one.Cut(lastStamp())
			one.Retain(math.MaxInt64)
		}
	}
}

// roomy is a set with room behind its end in which there is something.
func roomy(room int, l ...api.Pair) []api.Pair {
	n := len(l)
	l = slices.Clone(l)
	for range room {
		l = append(l, api.Pair{Name: "room", Value: "room"})
	}
	return l[:n]
}

// spoil writes into all of a set, and into the room behind its end.
func spoil(l []api.Pair) {
	l = l[:cap(l)]
	for i := range l {
		l[i] = api.Pair{Name: "spoilt", Value: "spoilt"}
	}
}

func TestR3PutKeepsNothingOfItsWrite(t *testing.T) {
	for _, room := range []int{0, 1, 9} {
		for _, pairs := range [][]api.Pair{nil, {{Name: "a", Value: "1"}}, {{Name: "a", Value: "1"}, {Name: "b", Value: "2"}}} {
			of := roomy(room, pairs...)
			before := slices.Clone(of[:cap(of)])
			w := api.Write{Set: of, Time: 5, Kind: sample, Num: 7}
			s := store.New()
			s.Put(w, at(1))
			s.Put(w, at(1))
			w.Time = -1
			s.Put(w, at(2))
			if !slices.Equal(of[:cap(of)], before) {
				t.Errorf("Put changed a set: %v", of[:cap(of)])
			}
			spoil(of)
			want := entry{api.Write{Set: pairs, Time: 5, Kind: sample, Num: 7}, at(1)}
			wantKept(t, s, want)
			wantAll(t, s, at(1), want)
		}
	}
}

func TestR3ScanLeavesItsRules(t *testing.T) {
	l := rules(`{b="2",a^="1"}`)
	s := storeOf(t, entry{num(`{a="1",b="2"}`, 5, 7), at(1)})
	s.Scan(l[:1], 0, 9, at(1))
	s.Scan(l, 0, 9, at(1))
	if !slices.Equal(l, rules(`{b="2",a^="1"}`)) {
		t.Errorf("rules behind a Scan: %v", l)
	}
}

func TestR3AnswersShareNothing(t *testing.T) {
	l := []entry{
		{num(`{a="1",b="2",c="3"}`, 5, 7), at(1)}, {num(`{a="1",b="2",c="3"}`, 5, 8), at(2)},
		{num(`{a="1",b="2",c="3"}`, 6, 7), at(1)}, {num(`{a="2"}`, 6, 7), at(1)},
	}
	s := storeOf(t, l...)
	for i := range 3 {
		points := s.Scan(nil, 0, 9, at(1))
		spoil(points[i].Set)
		wantEntries(t, "others", entriesOf(slices.Delete(points, i, i+1)), slices.Delete([]entry{l[0], l[2], l[3]}, i, i+1)...)
		clear(points[:cap(points)])
	}
	for i := range l {
		writes, stamps := s.Kept()
		spoil(writes[i].Set)
		for j, w := range writes {
			if j != i {
				wantEntries(t, "others", []entry{{w, stamps[j]}}, l[j])
			}
		}
		clear(writes[:cap(writes)])
		clear(stamps[:cap(stamps)])
	}
	wantKept(t, s, l...)
	wantAll(t, s, at(1), l[0], l[2], l[3])
	puts(t, s, entry{num(`{a="2"}`, 6, 9), at(2)})
	wantScan(t, s, `{a="2"}`, 0, 9, at(2), entry{num(`{a="2"}`, 6, 9), at(2)})
}

// The set without labels is one, nil or empty; no rules are none, nil or empty.
func TestR4NilAndEmptyLists(t *testing.T) {
	p := entry{api.Write{Time: 5, Kind: sample, Num: 7}, at(1)}
	for _, of := range [][]api.Pair{nil, {}, roomy(3)} {
		s := store.New()
		w := p.w
		w.Set = of
		puts(t, s, entry{w, p.s})
		for _, again := range [][]api.Pair{nil, {}, roomy(3)} {
			w.Set = again
			wantError(t, s, w, p.s, api.ErrTwice)
		}
		for _, asked := range [][]match.Rule{nil, {}} {
			wantEntries(t, "Scan", entriesOf(s.Scan(asked, 0, 9, at(1))), p)
		}
	}
}

// What is answered doesn't hang on the order in which maps are gone through,
// nor on that of the Puts, nor on what other stores do.
func TestR5SameAnswers(t *testing.T) {
	var l []entry
	for i := range int64(30) {
		for _, of := range orderedSets() {
			l = append(l, entry{num(of, i%6, i), at(i)})
		}
	}
	d := dice(7)
	first := storeOf(t, l...)
	kept, seen := keptOf(t, first), entriesOf(first.Scan(nil, 0, 9, at(20)))
	for range 5 {
		s := storeOf(t, d.mix(l)...)
		for range 3 {
			wantKept(t, s, kept...)
			wantAll(t, s, at(20), seen...)
		}
		s.Cut(lastStamp())
		s.Retain(3)
		wantKept(t, first, kept...)
	}
	first.Cut(at(20))
	again := storeOf(t, d.mix(l)...)
	again.Cut(at(20))
	wantKept(t, again, keptOf(t, first)...)
	for _, p := range keptOf(t, again) {
		if !store.Right(p.w) || label.Text(p.w.Set) == "" {
			t.Errorf("kept: %v", p)
		}
	}
}
