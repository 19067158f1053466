package cell_test

import (
	"fmt"
	"math"
	"reflect"
	"slices"
	"strconv"
	"strings"
	"testing"

	"slackwater/api"
	"slackwater/ask"
	"slackwater/cell"
	"slackwater/label"
	"slackwater/match"
	"slackwater/stamp"
)

// The limits, the commands and the states stand here as numbers, so that the
// tests hold them, too.
const (
	maxShards = 4
	maxWrites = 64
	maxDeeds  = 1024
	maxPins   = 16
	maxLease  = 1 << 20
	maxToken  = 32
	maxNote   = 256
	maxPairs  = 16
	maxTime   = 1 << 62
)

const (
	begin   = 1
	decide  = 2
	prepare = 3
	resolve = 4
	closes  = 5
	cuts    = 6
	retain  = 7
	pins    = 8
	tick    = 9
)

const (
	open    = 1
	done    = 2
	dropped = 3
)

const (
	sample = 1
	note   = 2
	gone   = 3
)

const (
	zero = "0.0.0"
	// lastTick is the last Tick of all that are right, with the Mark 0.
	lastTick = "4611686018427387904.4294967295.0"
)

// st is the stamp of a text.
func st(text string) api.Stamp {
	s, e := stamp.Parse(text)
	if e != api.OK {
		panic(text)
	}
	return s
}

// set is the set of a text.
func set(text string) []api.Pair {
	l, e := label.Parse(text)
	if e != api.OK {
		panic(text)
	}
	return l
}

// rules are the rules of a text.
func rules(text string) []match.Rule {
	l, used := match.Parse(text)
	if used != len(text) {
		panic(text)
	}
	return l
}

func num(of string, time, n int64) api.Write {
	return api.Write{Set: set(of), Time: time, Kind: sample, Num: n}
}

func text(of string, time int64, s string) api.Write {
	return api.Write{Set: set(of), Time: time, Kind: note, Text: s}
}

func none(of string, time int64) api.Write {
	return api.Write{Set: set(of), Time: time, Kind: gone}
}

// nums is a batch of so many samples of one series.
func nums(n int) []api.Write {
	var l []api.Write
	for i := range n {
		l = append(l, num("{}", int64(i), 1))
	}
	return l
}

// one is a batch of one sample.
func one() []api.Write { return nums(1) }

func begins(token string, l ...api.Write) cell.Cmd {
	return cell.Cmd{Kind: begin, Token: token, Writes: l}
}

func decides(deed uint32, yes bool, at string) cell.Cmd {
	return cell.Cmd{Kind: decide, Deed: deed, Yes: yes, At: st(at)}
}

func prepares(deed uint32, at string, l ...api.Write) cell.Cmd {
	return cell.Cmd{Kind: prepare, Deed: deed, At: st(at), Writes: l}
}

func resolves(deed uint32, yes bool, at string) cell.Cmd {
	return cell.Cmd{Kind: resolve, Deed: deed, Yes: yes, At: st(at)}
}

func closesAt(at string) cell.Cmd { return cell.Cmd{Kind: closes, At: st(at)} }

func cutsAt(at string) cell.Cmd { return cell.Cmd{Kind: cuts, At: st(at)} }

func retains(n int64) cell.Cmd { return cell.Cmd{Kind: retain, N: n} }

func pinsAt(id int, at string, n int64) cell.Cmd {
	return cell.Cmd{Kind: pins, Id: id, At: st(at), N: n}
}

func ticks() cell.Cmd { return cell.Cmd{Kind: tick} }

// stands is a reply of how a deed stands.
func stands(deed uint32, state int, at string) cell.Reply {
	return cell.Reply{Deed: deed, State: state, At: st(at)}
}

// tells is a reply of a stamp alone.
func tells(at string) cell.Reply { return cell.Reply{At: st(at)} }

func newCell(t *testing.T, id int) *cell.Cell {
	t.Helper()
	c, e := cell.New(id)
	if c == nil || e != api.OK {
		t.Fatalf("New(%d): %v, error %d", id, c, e)
	}
	return c
}

// cellOf is a cell of the shard 0 behind commands.
func cellOf(t *testing.T, l ...cell.Cmd) *cell.Cell {
	t.Helper()
	c := newCell(t, 0)
	does(t, c, l...)
	return c
}

func does(t *testing.T, c *cell.Cell, l ...cell.Cmd) {
	t.Helper()
	for _, m := range l {
		if r := c.Do(m); r.Err != api.OK {
			t.Fatalf("Do(%+v): %+v", m, r)
		}
	}
}

func wantReply(t *testing.T, c *cell.Cell, m cell.Cmd, want cell.Reply) {
	t.Helper()
	if r := c.Do(m); r != want {
		t.Errorf("Do(%+v): %+v, want %+v", m, r, want)
	}
}

// wantRefused holds that a command has an error, and that nothing else is told,
// now and later.
func wantRefused(t *testing.T, c *cell.Cell, m cell.Cmd, want api.Errno) {
	t.Helper()
	before := shown(c)
	wantReply(t, c, m, cell.Reply{Err: want})
	if after := shown(c); after != before {
		t.Errorf("Do(%+v): told then:\n%s\nahead of it:\n%s", m, after, before)
	}
}

// shown is what a cell tells, at some stamps, from some times on, of some
// deeds.
func shown(c *cell.Cell) string {
	var b strings.Builder
	fmt.Fprintln(&b, c.Closed(), c.Safe(), c.Ticks(), c.Held(), c.Book())
	for deed := range uint32(20) {
		fmt.Fprintln(&b, told(c.Deed(deed)))
	}
	fmt.Fprintln(&b, told(c.Deed(math.MaxUint32)))
	for _, at := range []api.Stamp{{}, st("5.0.1"), st("7.0.0"), c.Safe(), c.Closed()} {
		for _, from := range []int64{0, 1, 4, 5, 6, 9, maxTime} {
			fmt.Fprintln(&b, told(c.Read(nil, from, maxTime, at)))
		}
	}
	return b.String()
}

func told[T, U any](v T, u U) string { return fmt.Sprint(v, u) }

// samePoints says whether two lists of points are one. A nil list and an empty
// one are.
func samePoints(a, b []api.Point) bool {
	return slices.EqualFunc(a, b, func(p, q api.Point) bool {
		return label.Compare(p.Set, q.Set) == 0 && p.Time == q.Time && p.Kind == q.Kind && p.Num == q.Num && p.Text == q.Text && p.At == q.At
	})
}

// laid are the points of writes at a stamp.
func laid(at string, l ...api.Write) []api.Point {
	var points []api.Point
	for _, w := range l {
		points = append(points, api.Point{Set: w.Set, Time: w.Time, Kind: w.Kind, Num: w.Num, Text: w.Text, At: st(at)})
	}
	return points
}

func wantRead(t *testing.T, c *cell.Cell, asked string, from, to int64, at string, want ...api.Point) {
	t.Helper()
	if l, e := c.Read(rules(asked), from, to, st(at)); e != api.OK || !samePoints(l, want) {
		t.Errorf("Read of %s from %d to %d at %s: %v, error %d, want %v", asked, from, to, at, l, e, want)
	}
}

// wantAll holds what stands at a stamp.
func wantAll(t *testing.T, c *cell.Cell, at string, want ...api.Point) {
	t.Helper()
	wantRead(t, c, "{}", 0, math.MaxInt64, at, want...)
}

func wantReadError(t *testing.T, c *cell.Cell, asked []match.Rule, from, to int64, at api.Stamp, want api.Errno) {
	t.Helper()
	if l, e := c.Read(asked, from, to, at); e != want || len(l) != 0 {
		t.Errorf("Read of %v from %d to %d at %v: %v, error %d, want error %d", asked, from, to, at, l, e, want)
	}
}

func wantAllError(t *testing.T, c *cell.Cell, at string, want api.Errno) {
	t.Helper()
	wantReadError(t, c, nil, 0, 9, st(at), want)
}

func wantDeed(t *testing.T, c *cell.Cell, deed uint32, want cell.Reply) {
	t.Helper()
	if r, known := c.Deed(deed); !known || r != want {
		t.Errorf("Deed(%d): %+v, %v, want %+v", deed, r, known, want)
	}
}

func wantHeld(t *testing.T, c *cell.Cell, want ...uint32) {
	t.Helper()
	if l := c.Held(); !slices.Equal(l, want) {
		t.Errorf("Held: %v, want %v", l, want)
	}
}

func long(n int) string { return strings.Repeat("a", n) }

// pairs is a set of so many labels.
func pairs(n int) []api.Pair {
	var l []api.Pair
	for i := range n {
		l = append(l, api.Pair{Name: "a" + string(rune('a'+i)), Value: "1"})
	}
	return l
}

func wrongStamps() []api.Stamp {
	return []api.Stamp{{Wall: -1}, {Wall: math.MinInt64, Tick: 3, Mark: 1}, {Wall: 1<<62 + 1, Mark: 1}, {Wall: math.MaxInt64, Mark: 1}}
}

func rightWrites() []api.Write {
	return []api.Write{
		{Kind: gone}, {Kind: sample}, {Kind: note}, none(`{a="1"}`, 5), num("{}", maxTime, math.MinInt64), num("{}", 3, math.MaxInt64),
		text("{}", 3, long(maxNote)), text("{}", 3, "\x00\xff"), {Set: pairs(maxPairs), Kind: sample}, {Set: []api.Pair{}, Kind: gone},
	}
}

func wrongWrites() []api.Write {
	return []api.Write{
		{}, {Kind: 4}, {Kind: -1}, {Kind: 1<<32 + 1}, num("{}", -1, 0), num("{}", maxTime+1, 0), num("{}", math.MinInt64, 0), text("{}", 0, long(maxNote+1)),
		{Kind: sample, Text: "a"}, {Kind: note, Num: 1}, {Kind: gone, Num: 1}, {Kind: gone, Text: "a"},
		{Set: pairs(maxPairs + 1), Kind: sample}, {Set: []api.Pair{{}}, Kind: sample}, {Set: []api.Pair{{Name: "a"}}, Kind: sample},
		{Set: []api.Pair{{Name: "b", Value: "1"}, {Name: "a", Value: "1"}}, Kind: sample},
		{Set: []api.Pair{{Name: "a", Value: "1"}, {Name: "a", Value: "1"}}, Kind: sample},
	}
}

// rightBatches are some of each kind.
func rightBatches() [][]api.Write {
	l := [][]api.Write{
		nums(2), nums(maxWrites),
		{num("{}", 1, 1), num(`{a="1"}`, 1, 1), num(`{a="2"}`, 1, 1), num(`{b="1"}`, 1, 1), num(`{a="1",b="1"}`, 1, 1)},
		{num(`{a="1"}`, 9, 1), num("{}", 5, 1), none(`{a="1"}`, 0)}, // in no order
	}
	for _, w := range rightWrites() {
		l = append(l, []api.Write{w}, []api.Write{num(`{z="1"}`, 7, 7), w})
	}
	return l
}

func wrongBatches() [][]api.Write {
	l := [][]api.Write{
		nil, {}, nums(maxWrites + 1), nums(1000),
		{num("{}", 1, 1), num("{}", 1, 1)}, {num("{}", 1, 1), none("{}", 1)}, {text("{}", 1, "a"), num("{}", 1, 2)},
		{num(`{a="1"}`, 1, 1), num("{}", 1, 1), num(`{a="1"}`, 2, 1), num(`{a="1"}`, 1, 2)},
		{{Kind: sample}, {Set: []api.Pair{}, Kind: note}},
		append(nums(maxWrites-1), num("{}", 0, 1)), append(nums(maxWrites-1), num("{}", maxWrites-2, 1)),
	}
	for _, w := range wrongWrites() {
		l = append(l, []api.Write{w}, []api.Write{num(`{z="1"}`, 7, 7), w}, []api.Write{w, num(`{z="1"}`, 7, 7)})
	}
	return l
}

func rightTokens() []string {
	return []string{"a", "!", "~", "0", "!~", "token", long(maxToken), strings.Repeat("~", maxToken)}
}

func wrongTokens() []string {
	return []string{"", " ", "\x7f", "\x00", "\xff", "\n", "a b", " a", "a ", "a\x7f", "\x1fa", "ä", "\uff10", long(maxToken + 1), long(maxToken) + " ", long(1 << 16)}
}

func TestP14_1Numbers(t *testing.T) {
	got := []int{cell.Begin, cell.Decide, cell.Prepare, cell.Resolve, cell.Close, cell.Cut, cell.Retain, cell.Pin, cell.Tick, cell.Open, cell.Done, cell.Dropped}
	want := []int{begin, decide, prepare, resolve, closes, cuts, retain, pins, tick, open, done, dropped}
	if !slices.Equal(got, want) {
		t.Errorf("the commands and the states are %v, want %v", got, want)
	}
}

func TestP14_1New(t *testing.T) {
	for id := range maxShards {
		c := newCell(t, id)
		if c.Closed() != (api.Stamp{}) || c.Safe() != (api.Stamp{}) || c.Ticks() != 0 || len(c.Held()) != 0 || len(c.Book()) != 0 {
			t.Errorf("New(%d) tells:\n%s", id, shown(c))
		}
		for _, deed := range []uint32{0, 1, uint32(id + 1), math.MaxUint32} {
			if r, known := c.Deed(deed); known || r != (cell.Reply{}) {
				t.Errorf("New(%d): Deed(%d): %+v, %v", id, deed, r, known)
			}
		}
		wantAll(t, c, zero)
		wantAllError(t, c, "0.0.1", api.ErrWait)
	}
	for _, id := range []int{-1, maxShards, maxShards + 1, math.MinInt, math.MaxInt, 1 << 32, -1 << 32} {
		if c, e := cell.New(id); c != nil || e != api.ErrArg {
			t.Errorf("New(%d): %v, error %d", id, c, e)
		}
	}
}

func TestP14_1RightBatch(t *testing.T) {
	for _, l := range rightBatches() {
		if !cell.RightBatch(l) {
			t.Errorf("RightBatch(%v) is false", l)
		}
	}
	for _, l := range wrongBatches() {
		if cell.RightBatch(l) {
			t.Errorf("RightBatch(%v) is true", l)
		}
	}
	// Two writes of one point are found wherever they stand.
	for i := range maxWrites {
		for j := range i {
			l := nums(maxWrites)
			l[i].Time = int64(j)
			l[i].Kind = note
			l[i].Num = 0
			if cell.RightBatch(l) {
				t.Errorf("RightBatch: the writes %d and %d are of one point", j, i)
			}
			l[i].Set = set(`{a="1"}`)
			if !cell.RightBatch(l) {
				t.Errorf("RightBatch: the writes %d and %d are of unlike points", j, i)
			}
		}
	}
}

func TestP14_1IsToken(t *testing.T) {
	for _, s := range rightTokens() {
		if !cell.IsToken(s) {
			t.Errorf("IsToken(%q) is false", s)
		}
	}
	for _, s := range wrongTokens() {
		if cell.IsToken(s) {
			t.Errorf("IsToken(%.80q) is true", s)
		}
	}
	for b := range 256 {
		want := b >= 33 && b <= 126
		for _, s := range []string{string([]byte{byte(b)}), string([]byte{byte(b), 'a'}), string([]byte{'a', byte(b)})} {
			if got := cell.IsToken(s); got != want {
				t.Errorf("IsToken(%q): %v", s, got)
			}
		}
	}
}

func TestP14_1P14_2Examples(t *testing.T) {
	c := newCell(t, 0)
	w := num(`{a="1"}`, 3, 4)
	wantReply(t, c, begins("t", w), stands(1, open, zero))
	wantReply(t, c, prepares(1, "5.0.0", w), stands(1, open, "5.0.1"))
	wantReply(t, c, closesAt("9.0.0"), tells("9.0.4294967295"))
	wantAllError(t, c, "7.0.0", api.ErrPending)
	wantReply(t, c, resolves(1, true, "5.0.1"), stands(1, done, "5.0.1"))
	wantAll(t, c, "7.0.0", laid("5.0.1", w)...)

	c = cellOf(t, closesAt("9.0.0"))
	wantReply(t, c, prepares(1, "5.0.0", w), stands(1, open, "9.1.1"))
}

func TestP14_1Begin(t *testing.T) {
	for id := range maxShards {
		c := newCell(t, id)
		var book []cell.Item
		for i, l := range rightBatches() {
			token := "t" + strconv.Itoa(i)
			deed := uint32(i*maxShards + id + 1)
			wantReply(t, c, begins(token, l...), stands(deed, open, zero))
			wantReply(t, c, begins(token, l...), stands(deed, open, zero))
			book = append(book, cell.Item{Token: token, Deed: deed, State: open, Writes: l})
			wantBook(t, c, book)
		}
		for _, s := range rightTokens() {
			does(t, c, begins(s, one()...))
		}
		wantHeld(t, c) // the book's deeds are no parts
		if _, known := c.Deed(uint32(id + 1)); known {
			t.Errorf("Deed(%d) is known", id+1)
		}
	}
}

func wantBook(t *testing.T, c *cell.Cell, want []cell.Item) {
	t.Helper()
	if l := c.Book(); !slices.EqualFunc(l, want, sameItem) {
		t.Errorf("Book: %+v, want %+v", l, want)
	}
}

func sameItem(a, b cell.Item) bool {
	return a.Token == b.Token && a.Deed == b.Deed && a.State == b.State && a.At == b.At && sameWrites(a.Writes, b.Writes)
}

func sameWrites(a, b []api.Write) bool {
	return slices.EqualFunc(a, b, func(v, w api.Write) bool {
		return label.Compare(v.Set, w.Set) == 0 && v.Time == w.Time && v.Kind == w.Kind && v.Num == w.Num && v.Text == w.Text
	})
}

func TestP14_1BeginErrArg(t *testing.T) {
	c := cellOf(t, begins("known", one()...))
	for _, s := range wrongTokens() {
		wantRefused(t, c, begins(s, one()...), api.ErrArg)
	}
	for _, l := range wrongBatches() {
		wantRefused(t, c, begins("new", l...), api.ErrArg)
		// ErrArg goes ahead of ErrToken.
		wantRefused(t, c, begins("known", l...), api.ErrArg)
	}
}

func TestP14_1BeginErrToken(t *testing.T) {
	a, b := text(`{a="1"}`, 5, "x"), num("{}", 6, 7)
	c := cellOf(t, begins("t", a, b))
	others := [][]api.Write{
		{b, a}, {a}, {b}, {a, b, num("{}", 7, 7)}, {text(`{a="2"}`, 5, "x"), b}, {text(`{b="1"}`, 5, "x"), b}, {text("{}", 5, "x"), b},
		{text(`{a="1"}`, 4, "x"), b}, {text(`{a="1"}`, 5, "y"), b}, {text(`{a="1"}`, 5, ""), b}, {none(`{a="1"}`, 5), b}, {num(`{a="1"}`, 5, 0), b},
		{a, num("{}", 6, 8)}, {a, num("{}", 6, -7)}, {a, none("{}", 6)}, {a, num(`{a="1"}`, 6, 7)}, nums(maxWrites),
	}
	for _, state := range []cell.Cmd{ticks(), decides(1, true, "5.0.1")} {
		does(t, c, state)
		for _, l := range others {
			wantRefused(t, c, begins("t", l...), api.ErrToken)
		}
	}
	wantReply(t, c, begins("t", a, b), stands(1, done, "5.0.1"))
	wantReply(t, c, begins("T", b, a), stands(5, open, zero))
}

// What was decided is told to whoever begins it once more.
func TestP14_1BeginOnceMore(t *testing.T) {
	c := cellOf(t, begins("a", one()...), begins("b", one()...), begins("c", one()...), decides(1, true, "9.3.1"), decides(5, false, zero))
	wantReply(t, c, begins("a", one()...), stands(1, done, "9.3.1"))
	wantReply(t, c, begins("b", one()...), stands(5, dropped, zero))
	wantReply(t, c, begins("c", one()...), stands(9, open, zero))
	if n := len(c.Book()); n != 3 {
		t.Errorf("the book has %d batches", n)
	}
}

func TestP14_1BeginErrFull(t *testing.T) {
	c := newCell(t, 3)
	for i := range maxDeeds {
		wantReply(t, c, begins(strconv.Itoa(i), one()...), stands(uint32(i*maxShards+4), open, zero))
	}
	wantRefused(t, c, begins("new", one()...), api.ErrFull)
	wantRefused(t, c, begins("", one()...), api.ErrArg)
	wantRefused(t, c, begins("new"), api.ErrArg)
	wantRefused(t, c, begins("7", nums(2)...), api.ErrToken)
	does(t, c, decides(4, true, "5.0.4"), decides(maxDeeds*maxShards, false, zero))
	// What is decided stays in the book; what is known isn't entered again.
	wantRefused(t, c, begins("new", one()...), api.ErrFull)
	wantReply(t, c, begins("0", one()...), stands(4, done, "5.0.4"))
	wantReply(t, c, begins("1", one()...), stands(8, open, zero))
	wantReply(t, c, begins("1023", one()...), stands(maxDeeds*maxShards, dropped, zero))
}

func TestP14_1Decide(t *testing.T) {
	c := newCell(t, 1)
	does(t, c, begins("a", one()...), begins("b", one()...), begins("c", nums(2)...))
	wantReply(t, c, decides(6, true, "0.0.6"), stands(6, done, "0.0.6"))
	wantReply(t, c, decides(2, false, "5.0.2"), stands(2, dropped, zero))
	wantBook(t, c, []cell.Item{
		{Token: "a", Deed: 2, State: dropped, Writes: one()},
		{Token: "b", Deed: 6, State: done, At: st("0.0.6"), Writes: one()},
		{Token: "c", Deed: 10, State: open, Writes: nums(2)},
	})
	// It stands as it was decided, whatever is asked for.
	for _, yes := range []bool{true, false} {
		for _, at := range append(wrongStamps(), st("7.0.6"), st("7.0.2"), api.Stamp{}) {
			wantReply(t, c, cell.Cmd{Kind: decide, Deed: 6, Yes: yes, At: at}, stands(6, done, "0.0.6"))
			wantReply(t, c, cell.Cmd{Kind: decide, Deed: 2, Yes: yes, At: at}, stands(2, dropped, zero))
		}
	}
	// Of a No the stamp isn't looked at.
	wantReply(t, c, cell.Cmd{Kind: decide, Deed: 10, At: api.Stamp{Wall: -1}}, stands(10, dropped, zero))
	wantHeld(t, c)
}

func TestP14_1DecideErrors(t *testing.T) {
	c := newCell(t, 2)
	wantRefused(t, c, decides(3, false, zero), api.ErrNone)
	does(t, c, begins("a", one()...), begins("b", one()...), prepares(9, "5.0.0", one()...))
	for _, deed := range []uint32{0, 1, 2, 4, 5, 6, 8, 9, 11, 1 << 31, math.MaxUint32, math.MaxUint32 - 4} {
		wantRefused(t, c, decides(deed, false, zero), api.ErrNone)
		wantRefused(t, c, cell.Cmd{Kind: decide, Deed: deed, Yes: true, At: api.Stamp{Wall: 5, Mark: deed}}, api.ErrNone)
		wantRefused(t, c, cell.Cmd{Kind: decide, Deed: deed, Yes: true, At: api.Stamp{Wall: -1}}, api.ErrNone)
	}
	for _, at := range append(wrongStamps(), st("5.0.0"), st("5.0.2"), st("5.0.7"), st("5.7.8"), st("3.3.4294967295"), api.Stamp{Wall: -1, Mark: 3}, api.Stamp{Wall: 1<<62 + 1, Mark: 3}) {
		wantRefused(t, c, cell.Cmd{Kind: decide, Deed: 3, Yes: true, At: at}, api.ErrArg)
	}
	wantReply(t, c, decides(3, true, "4611686018427387904.4294967295.3"), stands(3, done, "4611686018427387904.4294967295.3"))
}

func TestP14_1Prepare(t *testing.T) {
	for _, c := range []struct{ closed, asked, want string }{
		{zero, "5.0.0", "5.0.7"}, {zero, "5.3.9", "5.3.7"}, {zero, "5.3.4294967295", "5.3.7"},
		{zero, zero, "0.1.7"}, {zero, "0.0.9", "0.1.7"}, {zero, "0.1.0", "0.1.7"}, {zero, "0.2.0", "0.2.7"},
		{"9.0.0", "5.0.0", "9.1.7"}, {"9.0.0", "9.0.0", "9.1.7"}, {"9.0.0", "9.0.4294967295", "9.1.7"}, {"9.0.0", "8.9.9", "9.1.7"},
		{"9.0.0", "9.1.0", "9.1.7"}, {"9.0.0", "9.2.3", "9.2.7"}, {"9.0.0", "10.0.0", "10.0.7"},
		{"9.4294967295.0", "9.4294967295.0", "10.0.7"}, {"9.4294967295.0", "3.0.0", "10.0.7"}, {"9.4294967295.0", "10.0.0", "10.0.7"},
		{"9.0.0", lastTick, "4611686018427387904.4294967295.7"},
		{"4611686018427387904.4294967294.0", "0.0.0", "4611686018427387904.4294967295.7"},
		{"4611686018427387903.4294967295.0", "0.0.0", "4611686018427387904.0.7"},
	} {
		one := one()
		l := cellOf(t)
		if c.closed != zero { // a Close at zero closes all its Marks
			does(t, l, closesAt(c.closed))
		}
		wantReply(t, l, prepares(7, c.asked, one...), stands(7, open, c.want))
		wantDeed(t, l, 7, stands(7, open, c.want))
		wantHeld(t, l, 7)
		// It is as it stands, whatever is asked for.
		wantReply(t, l, prepares(7, "50.0.0", nums(2)...), stands(7, open, c.want))
		wantReply(t, l, cell.Cmd{Kind: prepare, Deed: 7, At: api.Stamp{Wall: -1}}, stands(7, open, c.want))
		does(t, l, resolves(7, true, c.want), closesAt(c.want))
		wantAll(t, l, c.want, laid(c.want, one...)...)
	}
	c := cellOf(t, closesAt(zero))
	wantReply(t, c, prepares(1, zero, one()...), stands(1, open, "0.1.1"))
}

func TestP14_1PrepareAsItStands(t *testing.T) {
	c := cellOf(t, prepares(1, "5.0.0", one()...), resolves(1, true, "6.0.1"), resolves(2, false, zero), prepares(3, "5.0.0", one()...), resolves(3, false, zero))
	for _, m := range []cell.Cmd{prepares(0, "5.0.0", nums(3)...), prepares(0, "5.0.0"), {Kind: prepare, At: api.Stamp{Wall: -1}}} {
		for deed, want := range []cell.Reply{{}, stands(1, done, "6.0.1"), stands(2, dropped, zero), stands(3, dropped, zero)} {
			if m.Deed = uint32(deed); deed > 0 {
				wantReply(t, c, m, want)
				wantDeed(t, c, m.Deed, want)
			}
		}
	}
	wantHeld(t, c)
}

func TestP14_1PrepareOfAnyBatch(t *testing.T) {
	c := newCell(t, 0)
	for i, l := range rightBatches() {
		deed := math.MaxUint32 - uint32(i)
		at := api.Stamp{Wall: int64(i) + 1, Mark: deed}
		wantReply(t, c, cell.Cmd{Kind: prepare, Deed: deed, At: at, Writes: l}, cell.Reply{Deed: deed, State: open, At: at})
	}
}

func TestP14_1PrepareErrArg(t *testing.T) {
	c := cellOf(t, prepares(9, "5.0.0", one()...))
	wantRefused(t, c, prepares(0, "5.0.0", one()...), api.ErrArg)
	for _, l := range wrongBatches() {
		wantRefused(t, c, prepares(1, "5.0.0", l...), api.ErrArg)
	}
	for _, at := range wrongStamps() {
		wantRefused(t, c, cell.Cmd{Kind: prepare, Deed: 1, At: at, Writes: one()}, api.ErrArg)
	}
	wantHeld(t, c, 9)
}

func TestP14_1PrepareErrFull(t *testing.T) {
	c := newCell(t, 0)
	for i := range uint32(maxDeeds) {
		switch i % 3 { // open, done and dropped ones count alike
		case 0:
			does(t, c, prepares(i+1, "5.0.0", nums(maxWrites)...))
		case 1:
			does(t, c, prepares(i+1, "5.0.0", nums(maxWrites)...), cell.Cmd{Kind: resolve, Deed: i + 1, Yes: true, At: api.Stamp{Wall: 5, Mark: i + 1}})
		case 2:
			does(t, c, resolves(i+1, false, zero))
		}
	}
	wantRefused(t, c, prepares(2000, "5.0.0", one()...), api.ErrFull)
	wantRefused(t, c, resolves(2000, false, zero), api.ErrFull)
	// Other errors go ahead, or behind; what is known is told.
	wantRefused(t, c, prepares(2000, "5.0.0"), api.ErrArg)
	wantRefused(t, c, prepares(0, "5.0.0", one()...), api.ErrArg)
	wantRefused(t, c, resolves(0, false, zero), api.ErrArg)
	wantRefused(t, c, resolves(2000, true, "5.0.2000"), api.ErrNone)
	does(t, c, closesAt(lastTick))
	wantRefused(t, c, prepares(2000, "5.0.0", one()...), api.ErrFull)
	wantReply(t, c, prepares(1024, "5.0.0", one()...), stands(1024, open, "5.0.1024"))
	wantReply(t, c, prepares(3, "5.0.0", one()...), stands(3, dropped, zero))
	wantReply(t, c, resolves(1024, true, "5.0.1024"), stands(1024, done, "5.0.1024"))
	wantReply(t, c, resolves(1, false, zero), stands(1, dropped, zero))
}

// Deeds that are dropped ahead of their Prepare count, too.
func TestP14_1ResolveErrFull(t *testing.T) {
	c := newCell(t, 0)
	for deed := uint32(1); deed <= maxDeeds; deed++ {
		wantReply(t, c, resolves(deed, false, zero), stands(deed, dropped, zero))
	}
	wantRefused(t, c, resolves(maxDeeds+1, false, zero), api.ErrFull)
	wantRefused(t, c, prepares(maxDeeds+1, "5.0.0", one()...), api.ErrFull)
	wantReply(t, c, resolves(maxDeeds, false, zero), stands(maxDeeds, dropped, zero))
}

// All the writes that so many deeds may have find room.
func TestP14_1PrepareAsManyAsMayBe(t *testing.T) {
	c := newCell(t, 0)
	for deed := uint32(1); deed <= maxDeeds; deed++ {
		does(t, c, prepares(deed, "5.0.0", nums(maxWrites)...))
	}
	for deed := uint32(1); deed <= maxDeeds; deed++ {
		does(t, c, cell.Cmd{Kind: resolve, Deed: deed, Yes: true, At: api.Stamp{Wall: 5, Mark: deed}})
	}
	does(t, c, closesAt("5.0.0"))
	for _, deed := range []uint32{1, 2, 500, maxDeeds} {
		at := stamp.Text(api.Stamp{Wall: 5, Mark: deed})
		wantAll(t, c, at, laid(at, nums(maxWrites)...)...)
	}
}

func TestP14_1PrepareErrOver(t *testing.T) {
	c := cellOf(t, closesAt(lastTick))
	for _, at := range []string{zero, "5.0.0", lastTick, "4611686018427387904.4294967295.4294967295"} {
		wantRefused(t, c, prepares(1, at, one()...), api.ErrOver)
	}
	wantRefused(t, c, prepares(1, "5.0.0"), api.ErrArg)
	wantRefused(t, c, prepares(0, "5.0.0", one()...), api.ErrArg)
	wantReply(t, c, resolves(1, false, zero), stands(1, dropped, zero))
	wantReply(t, c, prepares(1, "5.0.0", one()...), stands(1, dropped, zero))
}

func TestP14_1Resolve(t *testing.T) {
	l := []api.Write{num(`{a="1"}`, 5, 7), text("{}", 5, "x"), none("{}", 6)}
	for _, at := range []string{"5.0.9", "5.1.9", "6.0.9", "4611686018427387904.4294967295.9"} {
		c := cellOf(t, prepares(9, "5.0.0", l...))
		wantReply(t, c, resolves(9, true, at), stands(9, done, at))
		wantDeed(t, c, 9, stands(9, done, at))
		wantHeld(t, c)
		for _, yes := range []bool{true, false} {
			for _, other := range []string{"5.0.9", "7.0.9", "7.0.8", zero} {
				wantReply(t, c, resolves(9, yes, other), stands(9, done, at))
			}
		}
		does(t, c, closesAt(lastTick))
		wantAll(t, c, "5.0.8")
		wantAll(t, c, at, laid(at, l[1], l[0])...)
		wantAll(t, c, lastTick[:len(lastTick)-1]+"4294967295", laid(at, l[1], l[0])...)
	}
	for _, at := range append(wrongStamps(), st("5.0.9"), st("1.0.0"), api.Stamp{}) {
		c := cellOf(t, prepares(9, "5.0.0", l...))
		wantReply(t, c, cell.Cmd{Kind: resolve, Deed: 9, At: at}, stands(9, dropped, zero))
		wantReply(t, c, cell.Cmd{Kind: resolve, Deed: 9, Yes: true, At: at}, stands(9, dropped, zero))
		wantDeed(t, c, 9, stands(9, dropped, zero))
		wantHeld(t, c)
		does(t, c, closesAt("9.0.0"))
		wantAll(t, c, "9.0.0")
	}
}

// A No of a deed that isn't known stays: a Prepare that comes late finds it.
func TestP14_1ResolveUnknown(t *testing.T) {
	c := newCell(t, 0)
	for _, deed := range []uint32{1, 9, math.MaxUint32} {
		wantReply(t, c, cell.Cmd{Kind: resolve, Deed: deed, At: api.Stamp{Wall: -1}}, stands(deed, dropped, zero))
		wantDeed(t, c, deed, stands(deed, dropped, zero))
		wantReply(t, c, prepares(deed, "5.0.0", one()...), stands(deed, dropped, zero))
		wantReply(t, c, cell.Cmd{Kind: resolve, Deed: deed, Yes: true, At: api.Stamp{Wall: 5, Mark: deed}}, stands(deed, dropped, zero))
	}
	wantHeld(t, c)
}

func TestP14_1ResolveErrors(t *testing.T) {
	c := cellOf(t, prepares(9, "5.3.0", one()...))
	for _, at := range append(wrongStamps(), api.Stamp{}, st("5.3.0")) {
		wantRefused(t, c, cell.Cmd{Kind: resolve, At: at}, api.ErrArg)
		wantRefused(t, c, cell.Cmd{Kind: resolve, Yes: true, At: at}, api.ErrArg)
		wantRefused(t, c, cell.Cmd{Kind: resolve, Deed: 8, Yes: true, At: at}, api.ErrNone)
	}
	wantRefused(t, c, resolves(8, true, "5.3.8"), api.ErrNone)
	for _, at := range append(wrongStamps(), api.Stamp{Wall: -1, Mark: 9}, api.Stamp{Wall: 1<<62 + 1, Mark: 9}, api.Stamp{Wall: math.MaxInt64, Mark: 9},
		st("5.3.8"), st("5.3.10"), st("6.0.0"), st("6.0.8"), st("6.0.4294967295"), st("5.2.9"), st("4.9.9"), st("0.0.9"), api.Stamp{}) {
		wantRefused(t, c, cell.Cmd{Kind: resolve, Deed: 9, Yes: true, At: at}, api.ErrArg)
	}
	wantReply(t, c, resolves(9, true, "5.3.9"), stands(9, done, "5.3.9"))
}

// Parts are laid down in any order, each at a stamp of its own.
func TestP14_1ResolveInAnyOrder(t *testing.T) {
	c := cellOf(t, prepares(3, "5.0.0", num("{}", 1, 3)), prepares(1, "5.0.0", num("{}", 1, 1)), prepares(2, "4.0.0", num("{}", 1, 2)), closesAt("9.0.0"))
	wantHeld(t, c, 1, 2, 3)
	does(t, c, resolves(3, true, "5.0.3"))
	wantHeld(t, c, 1, 2)
	wantAllError(t, c, "5.0.3", api.ErrPending)
	wantAll(t, c, "4.0.1")
	does(t, c, resolves(1, true, "7.0.1"))
	wantAllError(t, c, "7.0.1", api.ErrPending)
	does(t, c, resolves(2, true, "6.0.2"))
	wantHeld(t, c)
	wantAll(t, c, "5.0.2")
	wantAll(t, c, "5.0.3", laid("5.0.3", num("{}", 1, 3))...)
	wantAll(t, c, "6.0.1", laid("5.0.3", num("{}", 1, 3))...)
	wantAll(t, c, "6.0.2", laid("6.0.2", num("{}", 1, 2))...)
	wantAll(t, c, "7.0.1", laid("7.0.1", num("{}", 1, 1))...)
}

// A batch of the book is not what is held of a deed of the same number.
func TestP14_1BookAndDeedsAreApart(t *testing.T) {
	c := cellOf(t, begins("a", one()...), prepares(1, "5.0.0", nums(2)...))
	wantReply(t, c, resolves(1, false, zero), stands(1, dropped, zero))
	wantReply(t, c, begins("a", one()...), stands(1, open, zero))
	wantReply(t, c, decides(1, true, "5.0.1"), stands(1, done, "5.0.1"))
	wantDeed(t, c, 1, stands(1, dropped, zero))
}

func TestP14_1Close(t *testing.T) {
	c := newCell(t, 0)
	for _, step := range []struct{ at, want string }{
		{zero, "0.0.4294967295"}, {"5.0.0", "5.0.4294967295"}, {"5.0.0", "5.0.4294967295"}, {"5.0.4294967295", "5.0.4294967295"},
		{"4.9.9", "5.0.4294967295"}, {zero, "5.0.4294967295"}, {"5.1.7", "5.1.4294967295"}, {"5.0.9", "5.1.4294967295"},
		{lastTick, "4611686018427387904.4294967295.4294967295"}, {"9.0.0", "4611686018427387904.4294967295.4294967295"},
	} {
		wantReply(t, c, closesAt(step.at), tells(step.want))
		if got := c.Closed(); got != st(step.want) {
			t.Errorf("Closed behind a Close at %s: %v", step.at, got)
		}
		wantAll(t, c, step.want)
	}
	for _, at := range wrongStamps() {
		wantRefused(t, cellOf(t, closesAt("5.0.0")), cell.Cmd{Kind: closes, At: at}, api.ErrArg)
	}
}

func TestP14_1Cut(t *testing.T) {
	a, b, d := num("{}", 1, 1), num("{}", 1, 2), none("{}", 1)
	c := cellOf(t,
		prepares(1, "2.0.0", a), resolves(1, true, "2.0.1"), prepares(2, "4.0.0", b), resolves(2, true, "4.0.2"),
		prepares(3, "6.0.0", d), resolves(3, true, "6.0.3"), closesAt("9.0.0"))
	wantReply(t, c, cutsAt("5.0.0"), tells("5.0.0"))
	wantAllError(t, c, "4.0.2", api.ErrTooOld)
	wantAllError(t, c, "4.9.9", api.ErrTooOld)
	wantAll(t, c, "5.0.0", laid("4.0.2", b)...)
	wantAll(t, c, "6.0.2", laid("4.0.2", b)...)
	wantAll(t, c, "6.0.3")
	// At a stamp that isn't behind safe nothing is done.
	for _, at := range []string{"5.0.0", "4.9.9", "2.0.0", zero} {
		wantReply(t, c, cutsAt(at), tells("5.0.0"))
		wantAll(t, c, "5.0.0", laid("4.0.2", b)...)
	}
	wantReply(t, c, cutsAt("5.0.1"), tells("5.0.1"))
	wantAllError(t, c, "5.0.0", api.ErrTooOld)
	wantReply(t, c, cutsAt("9.0.4294967295"), tells("9.0.4294967295"))
	wantAllError(t, c, "9.0.4294967294", api.ErrTooOld)
	wantAll(t, c, "9.0.4294967295")
	if c.Safe() != st("9.0.4294967295") {
		t.Errorf("Safe: %v", c.Safe())
	}
}

func TestP14_1CutErrors(t *testing.T) {
	c := cellOf(t, prepares(1, "7.0.0", one()...), pinsAt(3, "5.0.0", 9), closesAt("9.0.0"))
	for _, at := range wrongStamps() {
		wantRefused(t, c, cell.Cmd{Kind: cuts, At: at}, api.ErrArg)
	}
	wantRefused(t, c, cutsAt("9.1.0"), api.ErrWait)
	wantRefused(t, c, cutsAt("10.0.0"), api.ErrWait)
	wantRefused(t, c, cutsAt("9.0.4294967295"), api.ErrPending)
	wantRefused(t, c, cutsAt("7.0.1"), api.ErrPending)
	wantRefused(t, c, cutsAt("7.0.2"), api.ErrPending)
	wantRefused(t, c, cutsAt("7.0.0"), api.ErrState)
	wantRefused(t, c, cutsAt("5.0.1"), api.ErrState)
	wantReply(t, c, cutsAt("5.0.0"), tells("5.0.0"))
	wantReply(t, c, cutsAt("4.0.0"), tells("5.0.0"))
	// With nothing held any more the pins alone are in the way.
	does(t, c, resolves(1, true, "8.0.1"))
	wantRefused(t, c, cutsAt("7.0.1"), api.ErrState)
	does(t, c, pinsAt(4, "8.0.0", 9))
	for range 9 {
		wantRefused(t, c, cutsAt("8.0.1"), api.ErrState)
		does(t, c, ticks())
	}
	wantReply(t, c, cutsAt("8.0.1"), tells("8.0.1"))
}

// The least pin holds, wherever it stands among the others.
func TestP14_1CutOfManyPins(t *testing.T) {
	for least := range maxPins {
		c := cellOf(t, closesAt("99.0.0"))
		for id := range maxPins {
			at := "50.0.0"
			if id == least {
				at = "40.0.0"
			}
			does(t, c, pinsAt(id, at, 1))
		}
		wantRefused(t, c, cutsAt("40.0.1"), api.ErrState)
		wantReply(t, c, cutsAt("40.0.0"), tells("40.0.0"))
		does(t, c, ticks())
		wantReply(t, c, cutsAt("99.0.0"), tells("99.0.0"))
	}
}

// A stamp that isn't behind safe is told ahead of all errors but ErrArg.
func TestP14_1CutAheadOfSafe(t *testing.T) {
	c := newCell(t, 0)
	wantReply(t, c, cutsAt(zero), tells(zero))
	does(t, c, closesAt("9.0.0"), cutsAt("9.0.0"), prepares(1, "10.0.0", one()...), pinsAt(0, "9.0.0", 5))
	for _, at := range []string{zero, "5.0.0", "9.0.0"} {
		wantReply(t, c, cutsAt(at), tells("9.0.0"))
	}
	for _, at := range wrongStamps() {
		wantRefused(t, c, cell.Cmd{Kind: cuts, At: at}, api.ErrArg)
	}
}

func TestP14_1Retain(t *testing.T) {
	l := nums(9)
	c := cellOf(t, prepares(1, "5.0.0", l...), resolves(1, true, "5.0.1"), prepares(2, "5.0.0", l...), closesAt("7.0.0"))
	wantReply(t, c, retains(0), cell.Reply{})
	wantAll(t, c, "5.0.1", laid("5.0.1", l...)...)
	wantReply(t, c, retains(4), cell.Reply{})
	wantReadError(t, c, nil, 3, 9, st("5.0.1"), api.ErrTooOld)
	wantReadError(t, c, nil, 0, 0, st("5.0.1"), api.ErrTooOld)
	wantRead(t, c, "{}", 4, 9, "5.0.1", laid("5.0.1", l[4:]...)...)
	// A horizon doesn't fall.
	wantReply(t, c, retains(2), cell.Reply{})
	wantReadError(t, c, nil, 3, 9, st("5.0.1"), api.ErrTooOld)
	wantReply(t, c, retains(6), cell.Reply{})
	// What is ahead of the horizon is not laid down, at it is.
	wantReply(t, c, resolves(2, true, "6.0.2"), stands(2, done, "6.0.2"))
	wantRead(t, c, "{}", 6, 9, "6.0.1", laid("5.0.1", l[6:]...)...)
	wantRead(t, c, "{}", 6, 9, "6.0.2", laid("6.0.2", l[6:]...)...)
	wantReply(t, c, retains(maxTime), cell.Reply{})
	wantReadError(t, c, nil, maxTime-1, math.MaxInt64, st("7.0.0"), api.ErrTooOld)
	wantRead(t, c, "{}", maxTime, math.MaxInt64, "7.0.0")
	for _, n := range []int64{-1, maxTime + 1, math.MinInt64, math.MaxInt64} {
		wantRefused(t, c, retains(n), api.ErrArg)
		wantRefused(t, newCell(t, 0), retains(n), api.ErrArg)
	}
}

func TestP14_1PinAndTick(t *testing.T) {
	c := cellOf(t, closesAt("9.0.0"))
	wantReply(t, c, ticks(), cell.Reply{})
	wantReply(t, c, pinsAt(0, "5.0.0", 2), tells("5.0.0"))
	wantReply(t, c, pinsAt(maxPins-1, "6.0.0", 3), tells("6.0.0"))
	wantReply(t, c, ticks(), cell.Reply{})
	// A shorter lease takes nothing of what stands, a longer one adds to it.
	wantReply(t, c, pinsAt(maxPins-1, "6.0.0", 1), tells("6.0.0"))
	wantRefused(t, c, cutsAt("6.0.0"), api.ErrState)
	does(t, c, ticks()) // the pin 0 is gone, at its number
	wantReply(t, c, cutsAt("6.0.0"), tells("6.0.0"))
	wantRefused(t, c, cutsAt("7.0.0"), api.ErrState)
	wantReply(t, c, pinsAt(maxPins-1, "6.0.0", 2), tells("6.0.0"))
	does(t, c, ticks())
	wantRefused(t, c, cutsAt("7.0.0"), api.ErrState)
	does(t, c, ticks())
	wantReply(t, c, cutsAt("7.0.0"), tells("7.0.0"))
	if c.Ticks() != 5 {
		t.Errorf("Ticks: %d", c.Ticks())
	}
	// A pin that is gone may stand elsewhere.
	wantReply(t, c, pinsAt(maxPins-1, "8.0.0", 1), tells("8.0.0"))
	wantReply(t, c, pinsAt(1, "7.0.0", maxLease), tells("7.0.0"))
	wantReply(t, c, pinsAt(2, lastTick, 1), tells(lastTick)) // behind closed, too
}

func TestP14_1PinLasts(t *testing.T) {
	for _, lease := range []int64{1, 2, 7, maxLease} {
		c := cellOf(t, closesAt("9.0.0"), ticks(), pinsAt(5, "5.0.0", lease))
		for range lease - 1 {
			c.Do(ticks())
		}
		wantRefused(t, c, cutsAt("6.0.0"), api.ErrState)
		does(t, c, ticks())
		wantReply(t, c, cutsAt("6.0.0"), tells("6.0.0"))
		if c.Ticks() != lease+1 {
			t.Errorf("Ticks: %d, want %d", c.Ticks(), lease+1)
		}
	}
}

func TestP14_1PinErrors(t *testing.T) {
	c := cellOf(t, closesAt("9.0.0"), cutsAt("5.0.0"), pinsAt(3, "6.0.0", 4))
	for _, id := range []int{-1, maxPins, maxPins + 3, math.MinInt, math.MaxInt, 1 << 32, 1<<32 + 3} {
		wantRefused(t, c, pinsAt(id, "6.0.0", 1), api.ErrArg)
		wantRefused(t, c, pinsAt(id, "4.0.0", 1), api.ErrArg)
	}
	for _, n := range []int64{0, -1, maxLease + 1, math.MinInt64, math.MaxInt64} {
		wantRefused(t, c, pinsAt(3, "6.0.0", n), api.ErrArg)
		wantRefused(t, c, pinsAt(3, "7.0.0", n), api.ErrArg)
		wantRefused(t, c, pinsAt(0, "4.0.0", n), api.ErrArg)
	}
	for _, at := range wrongStamps() {
		wantRefused(t, c, cell.Cmd{Kind: pins, Id: 0, At: at, N: 1}, api.ErrArg)
		wantRefused(t, c, cell.Cmd{Kind: pins, Id: 3, At: at, N: 1}, api.ErrArg)
	}
	for _, id := range []int{0, 3, maxPins - 1} {
		wantRefused(t, c, pinsAt(id, "4.9.9", 9), api.ErrTooOld)
		wantRefused(t, c, pinsAt(id, zero, 9), api.ErrTooOld)
	}
	for _, at := range []string{"5.0.0", "6.0.1", "6.1.0", "7.0.0", "6.0.4294967295"} {
		wantRefused(t, c, pinsAt(3, at, 9), api.ErrTwice)
	}
	// None of these added a pin, or to its lease, or moved it.
	wantRefused(t, c, cutsAt("6.0.1"), api.ErrState)
	wantReply(t, c, cutsAt("6.0.0"), tells("6.0.0"))
	does(t, c, ticks(), ticks(), ticks())
	wantRefused(t, c, cutsAt("6.0.1"), api.ErrState)
	does(t, c, ticks())
	wantReply(t, c, cutsAt("9.0.0"), tells("9.0.0"))
}

func TestP14_1OtherKinds(t *testing.T) {
	c := cellOf(t, begins("t", one()...), prepares(1, "5.0.0", one()...), closesAt("4.0.0"))
	for _, kind := range []int{0, -1, 10, 11, 1 << 8, 1<<8 + 1, 1<<32 + 9, math.MinInt, math.MaxInt} {
		m := cell.Cmd{Kind: kind, Deed: 1, At: st("5.0.1"), Yes: true, Token: "u", N: 1, Id: 1, Writes: one()}
		wantRefused(t, c, m, api.ErrArg)
		wantRefused(t, c, cell.Cmd{Kind: kind}, api.ErrArg)
	}
}

// Fields that a command's row doesn't name are as they like.
func TestP14_1OtherFields(t *testing.T) {
	fill := func(m cell.Cmd, keep string) cell.Cmd {
		odd := cell.Cmd{Kind: m.Kind, Deed: 77, At: api.Stamp{Wall: -5, Tick: 3, Mark: 9}, Yes: true, Token: "\x00 ", N: -7, Id: 99, Writes: []api.Write{{}}}
		from, to := reflect.ValueOf(m), reflect.ValueOf(&odd).Elem()
		for _, name := range strings.Fields(keep) {
			to.FieldByName(name).Set(from.FieldByName(name))
		}
		return odd
	}
	plain, odd := newCell(t, 0), newCell(t, 0)
	for _, step := range []struct {
		m    cell.Cmd
		keep string
	}{
		{begins("t", one()...), "Token Writes"}, {begins("u", one()...), "Token Writes"}, {prepares(1, "5.0.0", one()...), "Deed At Writes"},
		{decides(1, true, "5.0.1"), "Deed Yes At"}, {decides(5, false, zero), "Deed Yes"}, {resolves(1, true, "5.0.1"), "Deed Yes At"},
		{prepares(2, "5.0.0", one()...), "Deed At Writes"}, {resolves(2, false, zero), "Deed Yes"}, {resolves(3, false, zero), "Deed Yes"},
		{closesAt("9.0.0"), "At"}, {pinsAt(2, "6.0.0", 1), "Id At N"}, {cutsAt("6.0.0"), "At"}, {retains(5), "N"}, {ticks(), ""}, {cutsAt("7.0.0"), "At"},
	} {
		want := plain.Do(step.m)
		if want.Err != api.OK {
			t.Fatalf("Do(%+v): %+v", step.m, want)
		}
		wantReply(t, odd, fill(step.m, step.keep), want)
		if shown(plain) != shown(odd) {
			t.Errorf("behind %+v: %s, want %s", step.m, shown(odd), shown(plain))
		}
	}
}

func TestP14_2ReadErrArg(t *testing.T) {
	c := cellOf(t, prepares(1, "7.0.0", one()...), closesAt("9.0.0"), cutsAt("5.0.0"), retains(2))
	// All other errors stand behind it.
	for _, at := range []string{"4.0.0", "6.0.0", "8.0.0", "10.0.0"} {
		for _, span := range [][2]int64{{-1, 5}, {-1, -1}, {math.MinInt64, math.MaxInt64}, {5, 4}, {1, 0}, {maxTime, 0}, {0, -1}, {math.MaxInt64, math.MinInt64}} {
			wantReadError(t, c, nil, span[0], span[1], st(at), api.ErrArg)
		}
		for _, asked := range [][]match.Rule{{{}}, {{Name: "a", Op: 0}}, {{Name: "a", Op: 5}}, {{Name: "", Op: 1}}, {{Name: "a", Op: 1, Value: "\n"}}, make([]match.Rule, maxPairs+1)} {
			wantReadError(t, c, asked, 2, 9, st(at), api.ErrArg)
		}
	}
	for _, at := range wrongStamps() {
		wantReadError(t, c, nil, 2, 9, at, api.ErrArg)
	}
}

func TestP14_2ReadErrorsInTheirOrder(t *testing.T) {
	c := cellOf(t, prepares(1, "7.0.0", one()...), closesAt("9.0.0"), cutsAt("5.0.0"), retains(2))
	// Too old are the stamp, or the times, whatever is closed or held.
	for _, at := range []string{zero, "4.9.9", "4.4294967295.4294967295"} {
		wantReadError(t, c, nil, 2, 9, st(at), api.ErrTooOld)
	}
	for _, at := range []string{zero, "6.0.0", "7.0.1", "9.0.0", "9.1.0", "10.0.0"} {
		wantReadError(t, c, nil, 1, 9, st(at), api.ErrTooOld)
		wantReadError(t, c, nil, 0, 0, st(at), api.ErrTooOld)
	}
	// What isn't closed goes ahead of what is held.
	for _, at := range []string{"9.1.0", "10.0.0", lastTick} {
		wantReadError(t, c, nil, 2, 9, st(at), api.ErrWait)
	}
	for _, at := range []string{"7.0.1", "7.0.2", "9.0.0", "9.0.4294967295"} {
		wantReadError(t, c, nil, 2, 9, st(at), api.ErrPending)
		wantReadError(t, c, rules(`{a="1"}`), 8, 8, st(at), api.ErrPending)
	}
	for _, at := range []string{"5.0.0", "5.0.1", "6.0.0", "7.0.0"} {
		wantRead(t, c, "{}", 2, 9, at)
		wantRead(t, c, "{}", 9, 9, at)
	}
	does(t, c, resolves(1, false, zero))
	wantRead(t, c, "{}", 2, 9, "9.0.4294967295")
}

func TestP14_2Read(t *testing.T) {
	l := []api.Write{num("{}", 0, 1), num(`{a="1"}`, 3, 2), text(`{a="1"}`, 5, "x"), num(`{a="1",b="2"}`, 3, 4), num(`{b="2"}`, maxTime, 5)}
	c := cellOf(t, prepares(1, "5.0.0", l[3], l[4], l[0], l[2], l[1]), resolves(1, true, "5.0.1"), prepares(2, "6.0.0", none("{}", 0)), resolves(2, true, "6.0.2"), closesAt("9.0.0"))
	wantAll(t, c, "5.0.0")
	wantAll(t, c, "5.0.1", laid("5.0.1", l...)...)
	wantAll(t, c, "6.0.2", laid("5.0.1", l[1:]...)...)
	wantRead(t, c, `{a="1"}`, 0, maxTime, "5.0.1", laid("5.0.1", l[1:4]...)...)
	wantRead(t, c, `{a="1"}`, 3, 5, "5.0.1", laid("5.0.1", l[1], l[3])...)
	wantRead(t, c, `{a="1",b=""}`, 4, 6, "5.0.1", laid("5.0.1", l[2])...)
	wantRead(t, c, "{}", 0, maxTime, "5.0.1", laid("5.0.1", l[:4]...)...)
	wantRead(t, c, "{}", maxTime, maxTime+1, "5.0.1", laid("5.0.1", l[4])...)
	wantRead(t, c, "{}", 3, 3, "5.0.1")
	wantRead(t, c, "{}", math.MaxInt64, math.MaxInt64, "5.0.1")
}

func TestP14_2Ask(t *testing.T) {
	l := []api.Write{num(`{a="1"}`, 1, 10), num(`{a="1"}`, 4, 20), num(`{a="2"}`, 2, 5), text(`{a="1"}`, 3, "x")}
	c := cellOf(t, prepares(1, "5.0.0", l...), resolves(1, true, "5.0.1"), closesAt("9.0.0"))
	points, _ := c.Read(nil, 0, 9, st("7.0.0"))
	for _, text := range []string{"points{} 0 9", "points{} 0 9 notes", "sum{} 0 9 9", "sum{} 0 4 2 notes", `count{a="1"} 0 9 1`, `max{a="3"} 0 9 1`, "delta{} 0 0 1", "min{} 2 9 3"} {
		q, e := ask.Parse(text)
		if e != api.OK {
			t.Fatalf("%s: error %d", text, e)
		}
		want, _ := ask.Run(q, points)
		if a, e := c.Ask(q, st("7.0.0")); e != api.OK || !reflect.DeepEqual(a, want) {
			t.Errorf("Ask(%s): %+v, error %d, want %+v", text, a, e, want)
		}
		if a, e := c.Ask(q, st("4.0.0")); e != api.OK || len(a.Rows) != 0 || len(a.Notes) != 0 {
			t.Errorf("Ask(%s) ahead of the batch: %+v, error %d", text, a, e)
		}
	}
	q := ask.Query{Op: 1, To: 9, Step: 9}
	if a, e := c.Ask(q, st("7.0.0")); e != api.OK || len(a.Rows) != 2 || a.Rows[0].Cells[0].Num != 30 || a.Rows[1].Cells[0].Num != 5 {
		t.Errorf("Ask: %+v, error %d", a, e)
	}
}

func wantAskError(t *testing.T, c *cell.Cell, q ask.Query, at api.Stamp, want api.Errno) {
	t.Helper()
	if a, e := c.Ask(q, at); e != want || len(a.Rows) != 0 || len(a.Notes) != 0 {
		t.Errorf("Ask(%+v) at %v: %+v, error %d, want error %d", q, at, a, e, want)
	}
}

func TestP14_2AskErrors(t *testing.T) {
	big := []api.Write{num(`{a="1"}`, 3, math.MaxInt64), num(`{a="1"}`, 4, 1), num("{}", 3, 1)}
	c := cellOf(t, prepares(1, "5.0.0", big...), resolves(1, true, "5.0.1"), prepares(2, "7.0.0", one()...), closesAt("9.0.0"), cutsAt("4.0.0"), retains(2))
	right := ask.Query{Op: 1, From: 2, To: 9, Step: 9}
	// A query that isn't right goes ahead of all that its stamp may be.
	for _, q := range []ask.Query{{Op: 6, To: 9, Step: 1}, {Op: 1, To: 9}, {Op: 0, To: 9, Step: 1}, {Op: 0, From: -1, To: 9}, {Op: 0, From: 9, To: 8}, {Op: 0, To: maxTime + 1},
		{Op: 0, To: 9, Rules: []match.Rule{{}}}, {Op: 1, To: 2000, Step: 1}} {
		for _, at := range append(wrongStamps(), api.Stamp{}, st("5.0.0"), st("8.0.0"), st("10.0.0")) {
			wantAskError(t, c, q, at, api.ErrArg)
		}
	}
	for _, at := range wrongStamps() {
		wantAskError(t, c, right, at, api.ErrArg)
	}
	wantAskError(t, c, right, st("3.9.9"), api.ErrTooOld)
	wantAskError(t, c, ask.Query{Op: 1, From: 1, To: 9, Step: 9}, st("6.0.0"), api.ErrTooOld)
	wantAskError(t, c, right, st("10.0.0"), api.ErrWait)
	wantAskError(t, c, right, st("7.0.2"), api.ErrPending)
	wantAskError(t, c, right, st("6.0.0"), api.ErrOver)
	right.Step = 2 // both in windows of their own
	if a, e := c.Ask(right, st("6.0.0")); e != api.OK || len(a.Rows) != 2 {
		t.Errorf("Ask: %+v, error %d", a, e)
	}
}

func TestP14_2Held(t *testing.T) {
	c := newCell(t, 0)
	deeds := []uint32{7, 3, math.MaxUint32, 1, 1 << 31, 4}
	for _, deed := range deeds {
		does(t, c, prepares(deed, "5.0.0", one()...))
	}
	wantHeld(t, c, 1, 3, 4, 7, 1<<31, math.MaxUint32)
	does(t, c, resolves(3, false, zero), cell.Cmd{Kind: resolve, Deed: math.MaxUint32, Yes: true, At: st("5.0.4294967295")}, resolves(2, false, zero))
	wantHeld(t, c, 1, 4, 7, 1<<31)
}
