package store_test

import (
	"fmt"
	"math"
	"slices"
	"strings"
	"testing"

	"slackwater/api"
	"slackwater/label"
	"slackwater/match"
	"slackwater/stamp"
	"slackwater/store"
)

// The limits and the kinds stand here as numbers, so that the tests hold them,
// too.
const (
	maxWall   = 1 << 62
	maxPart   = 1<<32 - 1
	maxTime   = 1 << 62
	maxNote   = 256
	maxPairs  = 16
	maxPoints = 65536
)

const (
	sample = 1
	note   = 2
	gone   = 3
)

func at(wall int64) api.Stamp { return api.Stamp{Wall: wall} }

// lastStamp is the last one of all that are right.
func lastStamp() api.Stamp { return api.Stamp{Wall: maxWall, Tick: maxPart, Mark: maxPart} }

// set is the set of a text.
func set(text string) []api.Pair {
	l, e := label.Parse(text)
	if e != api.OK {
		panic(text)
	}
	return l
}

// rules are the rules of a text.
func rules(text string) []match.Rule {
	l, used := match.Parse(text)
	if used != len(text) {
		panic(text)
	}
	return l
}

func num(of string, time, n int64) api.Write {
	return api.Write{Set: set(of), Time: time, Kind: sample, Num: n}
}

func text(of string, time int64, s string) api.Write {
	return api.Write{Set: set(of), Time: time, Kind: note, Text: s}
}

func none(of string, time int64) api.Write {
	return api.Write{Set: set(of), Time: time, Kind: gone}
}

// entry is a write with its stamp.
type entry struct {
	w api.Write
	s api.Stamp
}

func (e entry) String() string {
	return fmt.Sprintf("%s %d %d %d %q %s", label.Text(e.w.Set), e.w.Time, e.w.Kind, e.w.Num, e.w.Text, stamp.Text(e.s))
}

func same(a, b entry) bool { return a.String() == b.String() }

// entriesOf are points as entries.
func entriesOf(points []api.Point) []entry {
	var l []entry
	for _, p := range points {
		w := api.Write{Set: p.Set, Time: p.Time, Kind: p.Kind, Num: p.Num, Text: p.Text}
		l = append(l, entry{w, p.At})
	}
	return l
}

// keptOf is what a store's Kept tells.
func keptOf(t *testing.T, s *store.Store) []entry {
	t.Helper()
	writes, stamps := s.Kept()
	if len(writes) != len(stamps) {
		t.Fatalf("Kept: %d writes, %d stamps", len(writes), len(stamps))
	}
	var l []entry
	for i, w := range writes {
		l = append(l, entry{w, stamps[i]})
	}
	return l
}

// storeOf is a store to which entries are put, one behind the other.
func storeOf(t *testing.T, l ...entry) *store.Store {
	t.Helper()
	s := store.New()
	puts(t, s, l...)
	return s
}

func puts(t *testing.T, s *store.Store, l ...entry) {
	t.Helper()
	for _, p := range l {
		if e := s.Put(p.w, p.s); e != api.OK {
			t.Fatalf("Put(%v): error %d", p, e)
		}
	}
}

func wantEntries(t *testing.T, what string, got []entry, want ...entry) {
	t.Helper()
	if !slices.EqualFunc(got, want, same) {
		t.Errorf("%s: %v, want %v", what, got, want)
	}
}

func wantScan(t *testing.T, s *store.Store, asked string, from, to int64, st api.Stamp, want ...entry) {
	t.Helper()
	what := fmt.Sprintf("Scan of %s from %d to %d at %v", asked, from, to, st)
	wantEntries(t, what, entriesOf(s.Scan(rules(asked), from, to, st)), want...)
}

// wantAll holds what a Scan of all that there is tells at a stamp.
func wantAll(t *testing.T, s *store.Store, st api.Stamp, want ...entry) {
	t.Helper()
	wantScan(t, s, "{}", 0, maxTime+1, st, want...)
}

// wantKept holds what Kept and Len tell.
func wantKept(t *testing.T, s *store.Store, want ...entry) {
	t.Helper()
	wantEntries(t, "Kept", keptOf(t, s), want...)
	if s.Len() != len(want) {
		t.Errorf("Len: %d, want %d", s.Len(), len(want))
	}
}

// wantError holds that a Put is refused, and changes nothing.
func wantError(t *testing.T, s *store.Store, w api.Write, st api.Stamp, want api.Errno) {
	t.Helper()
	before := keptOf(t, s)
	if e := s.Put(w, st); e != want {
		t.Errorf("Put(%v): error %d, want %d", entry{w, st}, e, want)
	}
	wantKept(t, s, before...)
}

// pairs are n labels whose names rise.
func pairs(n int) []api.Pair {
	var l []api.Pair
	for i := range n {
		l = append(l, api.Pair{Name: string(rune('a' + i)), Value: "1"})
	}
	return l
}

func long(n int) string { return strings.Repeat("a", n) }

func rightSets() [][]api.Pair {
	return [][]api.Pair{
		nil, {}, set(`{a="1"}`), set(`{a="1",b="1"}`), pairs(maxPairs),
		{{Name: long(32), Value: long(64)}},
		{{Name: "_", Value: " "}},
		{{Name: "Z9", Value: `~"\`}},
	}
}

func wrongSets() [][]api.Pair {
	return [][]api.Pair{
		pairs(maxPairs + 1),
		{{Name: "b", Value: "1"}, {Name: "a", Value: "1"}},
		{{Name: "a", Value: "1"}, {Name: "a", Value: "2"}},
		{{Name: "a", Value: "1"}, {Name: "a", Value: "1"}},
		{{Name: "", Value: "1"}},
		{{Name: "a", Value: ""}},
		{{}},
		{{Name: "9", Value: "1"}},
		{{Name: "a-", Value: "1"}},
		{{Name: "a", Value: "\x1f"}},
		{{Name: "a", Value: "\x7f"}},
		{{Name: long(33), Value: "1"}},
		{{Name: "a", Value: long(65)}},
	}
}

func wrongTimes() []int64 {
	return []int64{-1, maxTime + 1, math.MinInt64, math.MaxInt64}
}

// rightWrites are writes that may be, at the edges of what may be.
func rightWrites() []api.Write {
	var l []api.Write
	for _, of := range rightSets() {
		l = append(l, api.Write{Set: of, Kind: sample})
	}
	for _, time := range []int64{0, 1, 1 << 32, maxTime - 1, maxTime} {
		l = append(l, num(`{a="1"}`, time, 1), text("{}", time, "a"), none(`{b="1"}`, time))
	}
	for _, n := range []int64{0, 1, -1, math.MaxInt64, math.MinInt64} {
		l = append(l, num(`{a="1"}`, 5, n))
	}
	for _, s := range []string{"", "a", "\x00\xff\n", long(maxNote - 1), long(maxNote)} {
		l = append(l, text(`{a="1"}`, 5, s))
	}
	return l
}

// wrongWrites are writes that may not be.
func wrongWrites() []api.Write {
	a := set(`{a="1"}`)
	l := []api.Write{
		{},
		{Set: a, Kind: sample, Text: "a"},
		{Set: a, Kind: sample, Num: 1, Text: "\x00"},
		{Set: a, Kind: note, Num: 1},
		{Set: a, Kind: note, Num: -1, Text: "a"},
		{Set: a, Kind: note, Text: long(maxNote + 1)},
		{Set: a, Kind: gone, Num: 1},
		{Set: a, Kind: gone, Text: "a"},
	}
	for _, kind := range []int{0, 4, -1, 1<<32 + 1, math.MinInt, math.MaxInt} {
		l = append(l, api.Write{Set: a, Kind: kind})
	}
	for _, of := range wrongSets() {
		l = append(l, api.Write{Set: of, Kind: sample}, api.Write{Set: of, Kind: note}, api.Write{Set: of, Kind: gone})
	}
	for _, time := range wrongTimes() {
		l = append(l, num(`{a="1"}`, time, 1), text(`{a="1"}`, time, ""), none("{}", time))
	}
	return l
}

// wrongStamps are stamps that may not be.
func wrongStamps() []api.Stamp {
	return []api.Stamp{at(-1), at(math.MinInt64), at(maxWall + 1), at(math.MaxInt64), {Wall: -1, Tick: maxPart, Mark: maxPart}}
}

func rightStamps() []api.Stamp {
	return []api.Stamp{at(0), {Mark: 1}, {Tick: 1}, {Tick: maxPart, Mark: maxPart}, at(1), at(maxWall), lastStamp()}
}

func TestP11_1New(t *testing.T) {
	s := store.New()
	wantKept(t, s)
	wantAll(t, s, lastStamp())
	puts(t, s, entry{num(`{a="1"}`, 5, 7), at(1)})
	wantKept(t, store.New())
}

func TestP11_1Right(t *testing.T) {
	for _, w := range rightWrites() {
		if !store.Right(w) {
			t.Errorf("Right(%v): false", w)
		}
	}
	for _, w := range wrongWrites() {
		if store.Right(w) {
			t.Errorf("Right(%v): true", w)
		}
	}
}

// The example of the chapter.
func TestP11_1P11_2Example(t *testing.T) {
	p := entry{num(`{a="1"}`, 5, 7), at(1)}
	s := storeOf(t, p)
	wantScan(t, s, "{}", 0, 6, at(1), p)
	wantScan(t, s, "{}", 0, 5, at(1))
	wantScan(t, s, "{}", 0, 6, api.Stamp{Tick: 9})
}

func TestP11_1PutTakesAllThatIsRight(t *testing.T) {
	for _, w := range rightWrites() {
		for _, st := range rightStamps() {
			p := entry{w, st}
			s := storeOf(t, p)
			wantKept(t, s, p)
			if w.Kind == gone {
				wantAll(t, s, st)
			} else {
				wantAll(t, s, st, p)
			}
		}
	}
}

func TestP11_1PutToTheChainOfItsSetAndTime(t *testing.T) {
	first := entry{num(`{a="1"}`, 5, 7), at(4)}
	s := storeOf(t, first)
	// The same stamp is there once in each chain.
	others := []entry{
		{num("{}", 5, 8), at(4)},
		{num(`{a="1"}`, 6, 9), at(4)},
		{num(`{a="1",b="1"}`, 5, 10), at(4)},
		{num(`{a="2"}`, 5, 11), at(4)},
		{num(`{b="1"}`, 5, 12), at(4)},
	}
	puts(t, s, others...)
	want := []entry{others[0], first, others[1], others[2], others[3], others[4]}
	wantKept(t, s, want...)
	wantAll(t, s, at(4), want...)
	for _, p := range want {
		wantError(t, s, p.w, p.s, api.ErrTwice)
		p.w.Num++
		wantError(t, s, p.w, p.s, api.ErrTwice)
	}
}

func TestP11_1PutErrArg(t *testing.T) {
	p := entry{num(`{a="1"}`, 0, 7), at(0)}
	for _, s := range []*store.Store{store.New(), storeOf(t, p)} {
		for _, w := range wrongWrites() {
			wantError(t, s, w, at(0), api.ErrArg)
			wantError(t, s, w, at(1), api.ErrArg)
			wantError(t, s, w, at(-1), api.ErrArg)
		}
		for _, st := range wrongStamps() {
			for _, w := range rightWrites() {
				wantError(t, s, w, st, api.ErrArg)
			}
		}
	}
}

func TestP11_1PutErrTwice(t *testing.T) {
	l := []entry{
		{num(`{a="1"}`, 5, 7), at(1)},
		{text(`{a="1"}`, 5, "a"), api.Stamp{Wall: 1, Mark: 1}},
		{none(`{a="1"}`, 5), api.Stamp{Wall: 1, Tick: 1}},
		{num(`{a="1"}`, 5, 8), at(2)},
		{num(`{a="1"}`, 5, 9), at(3)},
	}
	s := storeOf(t, l...)
	for _, p := range l {
		wantError(t, s, num(`{a="1"}`, 5, 7), p.s, api.ErrTwice)
		wantError(t, s, text(`{a="1"}`, 5, "a"), p.s, api.ErrTwice)
		wantError(t, s, none(`{a="1"}`, 5), p.s, api.ErrTwice)
	}
}

// crowd is as many entries as a store may have, at some points: a sixteenth of
// them Gone.
func crowd() []entry {
	var l []entry
	for i := range int64(maxPoints) {
		w := num(`{a="1"}`, i%32, i)
		if i%64 < 32 {
			w.Set = set("{}")
		}
		if i%16 == 0 {
			w.Kind, w.Num = gone, 0
		}
		l = append(l, entry{w, at(i)})
	}
	return l
}

func TestP11_1PutErrFull(t *testing.T) {
	l := crowd()
	s := storeOf(t, l[:maxPoints-1]...)
	last := l[maxPoints-1]
	if e := s.Put(l[0].w, l[0].s); e != api.ErrTwice || s.Len() != maxPoints-1 {
		t.Fatalf("Put of what is there: error %d", e)
	}
	puts(t, s, last)
	for _, c := range []struct {
		w    api.Write
		s    api.Stamp
		want api.Errno
	}{
		{num("{}", 40, 1), at(1), api.ErrFull},
		{num(`{a="1"}`, 5, 1), at(maxPoints), api.ErrFull},
		{none("{}", 0), at(maxPoints), api.ErrFull},
		// It is named ahead of chain's errors, behind the one of the write.
		{last.w, last.s, api.ErrFull},
		{num("{}", 40, 1), at(-1), api.ErrFull},
		{num("{}", -1, 1), at(1), api.ErrArg},
		{num("{}", -1, 1), at(-1), api.ErrArg},
	} {
		if e := s.Put(c.w, c.s); e != c.want || s.Len() != maxPoints {
			t.Errorf("Put(%v): error %d, want %d", entry{c.w, c.s}, e, c.want)
		}
	}
	want := slices.Clone(l)
	slices.SortStableFunc(want, inOrder)
	wantKept(t, s, want...)
}

// A store that was full has room again for as many as were dropped.
func TestP11_1PutBehindErrFull(t *testing.T) {
	s := storeOf(t, crowd()...)
	s.Cut(at(63))
	// Of 64 points each had one version that isn't behind the stamp: it stays,
	// but for the Gones.
	free := maxPoints - s.Len()
	if free != 64/16 {
		t.Fatalf("room for %d", free)
	}
	for i := range free {
		puts(t, s, entry{num("{}", 40, 1), at(int64(i))})
	}
	wantFull := func() {
		t.Helper()
		if e := s.Put(num("{}", 41, 1), at(0)); e != api.ErrFull {
			t.Errorf("Put: error %d", e)
		}
	}
	wantFull()
	s.Retain(1)
	for i := range maxPoints - s.Len() {
		puts(t, s, entry{num("{}", 42, 1), at(int64(i))})
	}
	wantFull()
}

func TestP11_1Len(t *testing.T) {
	s := store.New()
	for i, p := range []entry{
		{num(`{a="1"}`, 5, 7), at(1)},
		{num(`{a="1"}`, 5, 7), at(2)},
		{none(`{a="1"}`, 5), at(3)},
		{none("{}", 5), at(3)},
		{text("{}", 6, ""), at(0)},
	} {
		puts(t, s, p)
		if s.Len() != i+1 {
			t.Errorf("Len: %d, want %d", s.Len(), i+1)
		}
		s.Put(p.w, p.s)
		s.Put(p.w, at(-1))
		if s.Len() != i+1 {
			t.Errorf("Len behind Puts with an error: %d, want %d", s.Len(), i+1)
		}
	}
}

// inOrder is the order of layer 11.
func inOrder(a, b entry) int {
	if n := label.Compare(a.w.Set, b.w.Set); n != 0 {
		return n
	}
	if a.w.Time != b.w.Time {
		if a.w.Time < b.w.Time {
			return -1
		}
		return 1
	}
	return stamp.Compare(a.s, b.s)
}

// Sets stand in the order of layer 5, which isn't that of their texts; times
// in that of their numbers.
func orderedSets() []string {
	return []string{
		"{}", `{A="9"}`, `{a="!"}`, `{a="1"}`, `{a="1",b="2"}`, `{a="1",b="2",c="0"}`, `{a="1",ba="1"}`,
		`{a="1 "}`, `{a="1!"}`, `{a="10"}`, `{a="2"}`, `{a="Z"}`, `{a="\""}`, `{a="\\"}`, `{a="a"}`, `{a_="1"}`, `{aa="1"}`, `{b="1"}`,
	}
}

func orderedTimes() []int64 {
	return []int64{0, 1, 2, 9, 10, 11, 100, 1<<32 - 1, 1 << 32, maxTime - 1, maxTime}
}

func TestP11_2P11_3Order(t *testing.T) {
	sets := orderedSets()
	slices.SortFunc(sets, func(a, b string) int { return label.Compare(set(a), set(b)) })
	if slices.IsSorted(sets) {
		t.Fatal("the sets' order is that of their texts")
	}
	var want []entry
	for _, of := range sets {
		for _, time := range orderedTimes() {
			want = append(want, entry{num(of, time, 1), at(3)})
		}
	}
	back := slices.Clone(want)
	slices.Reverse(back)
	for _, l := range [][]entry{want, back} {
		s := storeOf(t, l...)
		wantAll(t, s, at(3), want...)
		wantKept(t, s, want...)
	}
}

func TestP11_2Point(t *testing.T) {
	st := api.Stamp{Wall: 3, Tick: 4, Mark: 5}
	for _, w := range []api.Write{
		num(`{a="1",b="2"}`, 7, -9), num("{}", maxTime, math.MinInt64), num("{}", 0, 0),
		text(`{a="1"}`, 7, "some\x00 text"), text(`{a="1"}`, 7, ""),
	} {
		l := storeOf(t, entry{w, st}).Scan(nil, 0, maxTime+1, at(4))
		if len(l) != 1 || !slices.Equal(l[0].Set, w.Set) || l[0].Time != w.Time || l[0].Kind != w.Kind || l[0].Num != w.Num || l[0].Text != w.Text || l[0].At != st {
			t.Errorf("Scan: %v, want %v", l, w)
		}
	}
}

func TestP11_2Stamps(t *testing.T) {
	l := []entry{
		{num("{}", 5, 1), at(2)},
		{text("{}", 5, "b"), at(4)},
		{none("{}", 5), at(6)},
		{none("{}", 5), at(7)},
		{num("{}", 5, 1), at(8)},
	}
	for _, order := range [][]int{{0, 1, 2, 3, 4}, {4, 3, 2, 1, 0}, {2, 0, 4, 1, 3}} {
		s := store.New()
		for _, i := range order {
			puts(t, s, l[i])
		}
		wantAll(t, s, at(0))
		wantAll(t, s, api.Stamp{Wall: 1, Tick: maxPart, Mark: maxPart})
		wantAll(t, s, at(2), l[0])
		wantAll(t, s, api.Stamp{Wall: 3, Tick: maxPart, Mark: maxPart}, l[0])
		wantAll(t, s, at(4), l[1])
		wantAll(t, s, api.Stamp{Wall: 4, Mark: 1}, l[1])
		wantAll(t, s, at(6))
		wantAll(t, s, at(7))
		wantAll(t, s, at(8), l[4])
		wantAll(t, s, lastStamp(), l[4])
	}
}

// Scan is of any stamp, also of those that aren't right.
func TestP11_2StampsThatAreNotRight(t *testing.T) {
	p := entry{num("{}", 5, 1), at(0)}
	s := storeOf(t, p, entry{none(`{a="1"}`, 5), at(maxWall)})
	wantAll(t, s, api.Stamp{Wall: -1, Tick: maxPart, Mark: maxPart})
	wantAll(t, s, at(math.MinInt64))
	wantAll(t, s, at(maxWall+1), p)
	wantAll(t, s, at(math.MaxInt64), p)
}

func TestP11_2Span(t *testing.T) {
	var l []entry
	for _, time := range []int64{0, 3, 5, 6, maxTime} {
		l = append(l, entry{num(`{a="1"}`, time, time), at(1)})
	}
	s := storeOf(t, l...)
	for _, c := range []struct {
		from, to    int64
		first, past int // the places of those that are told
	}{
		{0, 0, 0, 0},
		{0, 1, 0, 1},
		{1, 3, 1, 1},
		{0, 3, 0, 1},
		{0, 4, 0, 2},
		{3, 3, 1, 1},
		{3, 5, 1, 2},
		{3, 6, 1, 3},
		{4, 7, 2, 4},
		{6, 5, 0, 0},
		{6, 0, 0, 0},
		{7, maxTime, 4, 4},
		{7, maxTime + 1, 4, 5},
		{maxTime, maxTime + 1, 4, 5},
		{maxTime + 1, math.MaxInt64, 5, 5},
		{math.MinInt64, math.MaxInt64, 0, 5},
		{math.MaxInt64, math.MinInt64, 0, 0},
		{math.MinInt64, 0, 0, 0},
		{-5, 1, 0, 1},
		{-5, -1, 0, 0},
	} {
		wantScan(t, s, "{}", c.from, c.to, at(1), l[c.first:c.past]...)
	}
}

func TestP11_2Rules(t *testing.T) {
	l := []entry{
		{num("{}", 5, 0), at(1)},
		{num(`{a="1"}`, 5, 1), at(1)},
		{num(`{a="1",b="x"}`, 5, 2), at(1)},
		{num(`{a="12"}`, 5, 3), at(1)},
		{num(`{b="xy"}`, 5, 4), at(1)},
	}
	s := storeOf(t, l...)
	for _, c := range []struct {
		asked  string
		places []int
	}{
		{"{}", []int{0, 1, 2, 3, 4}},
		{`{a="1"}`, []int{1, 2}},
		{`{a!="1"}`, []int{0, 3, 4}},
		{`{a^="1"}`, []int{1, 2, 3}},
		{`{a*="2"}`, []int{3}},
		{`{a=""}`, []int{0, 4}},
		{`{b!=""}`, []int{2, 4}},
		{`{c=""}`, []int{0, 1, 2, 3, 4}},
		{`{c="1"}`, nil},
		{`{a="1",b=""}`, []int{1}},
		{`{b^="x",a!="1"}`, []int{4}},
		{`{a="1",a="12"}`, nil},
	} {
		var want []entry
		for _, i := range c.places {
			want = append(want, l[i])
		}
		wantScan(t, s, c.asked, 0, 6, at(1), want...)
	}
}

// Rules needn't be right: each holds or doesn't, as layer 6 says.
func TestP11_2RulesThatAreNotRight(t *testing.T) {
	p := entry{num(`{a="1"}`, 5, 1), at(1)}
	s := storeOf(t, p)
	for _, op := range []int{0, 5, -1, math.MinInt, math.MaxInt} {
		wantEntries(t, "Scan", entriesOf(s.Scan([]match.Rule{{Name: "a", Op: op, Value: "1"}}, 0, 6, at(1))))
	}
	many := slices.Repeat([]match.Rule{{Name: "a", Op: match.Is, Value: "1"}}, 1000)
	wantEntries(t, "Scan", entriesOf(s.Scan(many, 0, 6, at(1))), p)
	wantEntries(t, "Scan", entriesOf(s.Scan([]match.Rule{{Name: "-", Op: match.Not, Value: "\xff"}}, 0, 6, at(1))), p)
}

func TestP11_3Cut(t *testing.T) {
	a := []entry{
		{num(`{a="1"}`, 5, 1), at(2)},
		{text(`{a="1"}`, 5, "b"), at(4)},
		{none(`{a="1"}`, 5), at(6)},
		{num(`{a="1"}`, 5, 4), at(8)},
	}
	b := []entry{{num(`{b="1"}`, 0, 1), at(3)}, {none(`{b="1"}`, 0), at(5)}}
	c := []entry{{text(`{b="1"}`, maxTime, ""), at(5)}, {num(`{b="1"}`, maxTime, 5), at(7)}}
	for _, x := range []struct {
		st         api.Stamp
		a, b, c, n int // from which place on each one stays, and how many that are
	}{
		{at(-1), 0, 0, 0, 8},
		{at(0), 0, 0, 0, 8},
		{at(2), 0, 0, 0, 8},
		{at(3), 0, 0, 0, 8},
		{api.Stamp{Wall: 3, Tick: maxPart, Mark: maxPart}, 0, 0, 0, 8},
		{at(4), 1, 0, 0, 7},
		{at(5), 1, 2, 0, 5},
		{at(6), 3, 2, 0, 3},
		{at(7), 3, 2, 1, 2},
		{at(8), 3, 2, 1, 2},
		{lastStamp(), 3, 2, 1, 2},
		{at(math.MaxInt64), 3, 2, 1, 2},
	} {
		s := storeOf(t, slices.Concat(c, b, a)...)
		s.Cut(x.st)
		want := slices.Concat(a[x.a:], b[x.b:], c[x.c:])
		if len(want) != x.n {
			t.Fatalf("a test at %v that is wrong", x.st)
		}
		wantKept(t, s, want...)
		wantAll(t, s, at(math.MaxInt64), a[3], c[1])
	}
}

func TestP11_3CutOfAllAndOfNothing(t *testing.T) {
	s := store.New()
	s.Cut(lastStamp())
	wantKept(t, s)
	p, q := entry{none(`{a="1"}`, 5), at(1)}, entry{none("{}", 6), at(2)}
	puts(t, s, p, q)
	s.Cut(at(1))
	wantKept(t, s, q)
	s.Cut(at(2))
	wantKept(t, s)
	wantAll(t, s, lastStamp())
	// What is gone may be put again.
	puts(t, s, q, p)
	wantKept(t, s, q, p)
}

func TestP11_3Retain(t *testing.T) {
	var l []entry
	for _, of := range []string{"{}", `{a="1"}`} {
		for _, time := range []int64{0, 3, 5, maxTime} {
			l = append(l, entry{num(of, time, 1), at(1)}, entry{none(of, time), at(2)}, entry{text(of, time, "a"), at(9)})
		}
	}
	for _, c := range []struct {
		time int64
		left []int64
	}{
		{math.MinInt64, []int64{0, 3, 5, maxTime}},
		{-1, []int64{0, 3, 5, maxTime}},
		{0, []int64{0, 3, 5, maxTime}},
		{1, []int64{3, 5, maxTime}},
		{3, []int64{3, 5, maxTime}},
		{4, []int64{5, maxTime}},
		{5, []int64{5, maxTime}},
		{6, []int64{maxTime}},
		{maxTime, []int64{maxTime}},
		{maxTime + 1, nil},
		{math.MaxInt64, nil},
	} {
		s := storeOf(t, l...)
		s.Retain(c.time)
		var want []entry
		for _, p := range l {
			if slices.Contains(c.left, p.w.Time) {
				want = append(want, p)
			}
		}
		wantKept(t, s, want...)
	}
}

// Retain is of what is there: a time ahead of it may be written to again.
func TestP11_3RetainThenPut(t *testing.T) {
	s := store.New()
	s.Retain(100)
	p := entry{num("{}", 5, 1), at(1)}
	puts(t, s, p)
	wantAll(t, s, at(1), p)
	s.Retain(6)
	wantKept(t, s)
	puts(t, s, p)
	wantKept(t, s, p)
}

func TestP11_3Kept(t *testing.T) {
	want := []entry{
		{text("{}", 7, "x"), at(9)},
		{num(`{a="1"}`, 0, 1), at(5)},
		{none(`{a="1"}`, 5), at(0)},
		{num(`{a="1"}`, 5, 7), at(1)},
		{text(`{a="1"}`, 5, ""), api.Stamp{Wall: 1, Mark: 1}},
		{none(`{a="1"}`, 5), api.Stamp{Wall: 1, Tick: 1}},
		{none(`{a="1"}`, 5), lastStamp()},
		{num(`{a="1",b="1"}`, 2, -1), at(3)},
	}
	back := slices.Clone(want)
	slices.Reverse(back)
	for _, l := range [][]entry{want, back} {
		wantKept(t, storeOf(t, l...), want...)
	}
	// Another store is made of what is told.
	wantKept(t, storeOf(t, keptOf(t, storeOf(t, back...))...), want...)
}
