package tide_test

import (
	"bytes"
	"fmt"
	"math"
	"reflect"
	"slices"
	"strings"
	"testing"

	"slackwater/api"
	"slackwater/ask"
	"slackwater/cell"
	"slackwater/label"
	"slackwater/match"
	"slackwater/node"
	"slackwater/tally"
	"slackwater/tide"
)

// Tests of P18.4.

// settle lets a batch be decided, and the client be told.
func settle(t *testing.T, x *tide.Tide, token string, l []api.Write, phys int64) (cell.Reply, int64) {
	t.Helper()
	for range 40 {
		want(t, "Submit", x.Submit(token, l), api.OK)
		round(t, x, phys)
		phys++
		if r, _ := x.Fate(token); r.State == done || r.State == dropped {
			return r, phys
		}
	}
	r, ok := x.Fate(token)
	t.Fatalf("%q isn't decided: %+v, %v", token, r, ok)
	return cell.Reply{}, 0
}

// wantFate holds what is known of a token.
func wantFate(t *testing.T, x *tide.Tide, token string, want cell.Reply, known bool) {
	t.Helper()
	if r, ok := x.Fate(token); r != want || ok != known {
		t.Fatalf("the fate of %q is %+v, %v, want %+v, %v", token, r, ok, want, known)
	}
}

func TestP18_4SubmitErrors(t *testing.T) {
	x := led(t, conf(2, 2))
	right := sample(0, 2, 4, 7)
	var many []api.Write
	for i := range 65 {
		many = append(many, api.Write{Time: int64(i), Kind: api.Sample})
	}
	for _, token := range []string{"", " ", "a b", "\x7f", "t\n", "\xc3\xa4", strings.Repeat("t", 33)} {
		refuses(t, x, fmt.Sprintf("Submit of %q", token), func() api.Errno { return x.Submit(token, right) }, api.ErrArg)
	}
	for _, l := range [][]api.Write{
		nil, {}, many, {right[0], right[0]}, {{Time: -1, Kind: api.Sample}}, {{Time: maxWall + 1, Kind: api.Sample}}, {{Kind: 0}}, {{Kind: 4}}, {{Kind: api.Gone, Num: 1}},
		{{Kind: api.Sample, Text: "x"}}, {{Kind: api.Note, Num: 1, Text: "x"}}, {{Kind: api.Sample, Set: []api.Pair{{Name: "a"}}}}, {{Kind: api.Sample, Set: []api.Pair{{Name: "b", Value: "1"}, {Name: "a", Value: "1"}}}},
	} {
		refuses(t, x, fmt.Sprintf("Submit of %v", l), func() api.Errno { return x.Submit("t", l) }, api.ErrArg)
	}
	want(t, "Submit", x.Submit("!~"+strings.Repeat("t", 30), many[:64]), api.OK)
	// That the post is full comes last.
	for x.Len() < maxQueue {
		want(t, "Submit", x.Submit("t", right), api.OK)
	}
	refuses(t, x, "Submit of no token", func() api.Errno { return x.Submit("", right) }, api.ErrArg)
	refuses(t, x, "Submit of no batch", func() api.Errno { return x.Submit("t", nil) }, api.ErrArg)
	refuses(t, x, "Submit", func() api.Errno { return x.Submit("t", right) }, api.ErrFull)
}

// A batch is decided by the shard that is the token's home.
func TestP18_4SubmitToTheHome(t *testing.T) {
	x := led(t, conf(4, 4))
	for s := range 4 {
		for i := range s + 1 {
			want(t, "Submit", x.Submit(tokenOf(s, 4, i), sample(i%4, 4, 4, 7)), api.OK)
		}
	}
	flow(t, x, 20)
	for s := range 4 {
		for n := range 4 {
			is, leads := x.State(n, s), x.View(s).Primary == n
			if leads && is.Open != s+1 || !leads && is.Open > s+1 {
				t.Errorf("of the shard %d %d has %+v", s, n, is)
			}
		}
	}
}

// A batch isn't changed, and not kept.
func TestP18_4SubmitKeepsNothing(t *testing.T) {
	x := led(t, conf(1, 1))
	l := append(sample(0, 1, 4, 7), api.Write{Kind: 99})[:1]
	want(t, "Submit", x.Submit("t", l), api.OK)
	if !reflect.DeepEqual(l[:2], append(sample(0, 1, 4, 7), api.Write{Kind: 99})) {
		t.Errorf("%+v", l[:2])
	}
	l[0].Num, l[0].Set[0].Value = 99, "other"
	phys := rounds(t, x, 3, 20)
	if r, _ := settle(t, x, "t", sample(0, 1, 4, 7), phys); r.State != done {
		t.Errorf("%+v", r)
	}
}

func TestP18_4Fate(t *testing.T) {
	x := led(t, conf(1, 1))
	l, other := sample(0, 1, 4, 7), sample(0, 1, 4, 8)
	wantFate(t, x, "t", cell.Reply{}, false)
	wantFate(t, x, "", cell.Reply{}, false)
	want(t, "Submit", x.Submit("t", l), api.OK)
	wantFate(t, x, "t", cell.Reply{}, false)
	// It is entered, which isn't answered.
	flow(t, x, 20)
	wantFate(t, x, "t", cell.Reply{}, false)
	want(t, "Submit", x.Submit("t", l), api.OK)
	want(t, "Deliver", x.Deliver(0, 20), api.OK)
	wantFate(t, x, "t", cell.Reply{}, false)
	want(t, "Twice", x.Twice(0), api.OK)
	want(t, "Deliver", x.Deliver(0, 20), api.OK)
	isOpen := cell.Reply{Deed: 1, State: open}
	wantFate(t, x, "t", isOpen, true)
	late := x.Len() // the Answer's copy
	// Of an open one the last answer counts.
	want(t, "Submit", x.Submit("t", other), api.OK)
	want(t, "Deliver", x.Deliver(late, 20), api.OK)
	want(t, "Deliver", x.Deliver(late, 20), api.OK)
	wantFate(t, x, "t", cell.Reply{Err: api.ErrToken}, true)
	want(t, "Twice", x.Twice(0), api.OK)
	want(t, "Deliver", x.Deliver(1, 20), api.OK)
	wantFate(t, x, "t", isOpen, true)
	// Of a decided one no answer does.
	for range 3 {
		want(t, "Tick", x.Tick(0, 21), api.OK)
	}
	want(t, "Submit", x.Submit("t", l), api.OK)
	want(t, "Deliver", x.Deliver(x.Len()-1, 21), api.OK)
	want(t, "Deliver", x.Deliver(x.Len()-1, 21), api.OK)
	r, ok := x.Fate("t")
	if !ok || r.Err != api.OK || r.Deed != 1 || r.State != done || r.At.Wall != 21 || r.At.Mark != 1 {
		t.Fatalf("%+v, %v", r, ok)
	}
	want(t, "Deliver of what comes late", x.Deliver(0, 21), api.OK)
	wantFate(t, x, "t", r, true)
	want(t, "Submit", x.Submit("t", other), api.OK)
	flow(t, x, 22)
	wantFate(t, x, "t", r, true)
	wantFate(t, x, "u", cell.Reply{}, false)
}

// A batch that a shard can't hold is dropped, and its fate stays, too.
func TestP18_4FateOfDropped(t *testing.T) {
	x := newTide(t, conf(1, 2), 1<<20)
	want(t, "Announce", x.Announce(0), api.OK)
	token := tokenOf(0, 2, 0)
	r, _ := settle(t, x, token, sample(1, 2, 4, 7), 10)
	if r != (cell.Reply{Deed: 1, State: dropped}) {
		t.Fatalf("%+v", r)
	}
	want(t, "Submit", x.Submit(token, sample(0, 2, 4, 7)), api.OK)
	flow(t, x, 60)
	wantFate(t, x, token, r, true)
}

// What a book has no room for is told so.
func TestP18_4FateOfAFullBook(t *testing.T) {
	x := led(t, conf(1, 1))
	l := sample(0, 1, 4, 7)
	for i := range 1024 {
		want(t, "Submit", x.Submit(fmt.Sprint("t", i), l), api.OK)
	}
	flow(t, x, 20)
	want(t, "Submit", x.Submit("more", l), api.OK)
	want(t, "Submit", x.Submit("t1023", l), api.OK)
	flow(t, x, 20)
	wantFate(t, x, "more", cell.Reply{Err: api.ErrFull}, true)
	wantFate(t, x, "t1023", cell.Reply{Deed: 4093, State: open}, true)
}

// lastSure is the last command that a node knows to be sure.
func lastSure(x *tide.Tide, n, s int) []byte {
	l := x.Sure(n, s)
	if len(l) == 0 {
		return nil
	}
	return l[len(l)-1]
}

// An order tells its Kind, At, N and Id alone, and goes to its shard.
func TestP18_4Order(t *testing.T) {
	x := led(t, conf(1, 2))
	for i, m := range []cell.Cmd{
		{Kind: cut, At: at(11, 2, 3), N: 4, Id: 5},
		{Kind: retain, At: at(6, 7, 8), N: 9, Id: 10},
		{Kind: pin, At: at(12, 0, 0), N: 1 << 20, Id: 15},
		{Kind: pin, At: at(maxWall, maxTick, maxTick), N: math.MinInt64, Id: math.MinInt},
		{Kind: retain, N: math.MaxInt64, Id: math.MaxInt},
	} {
		s := i % 2
		was := x.Sure(0, 1-s)
		plain := m
		m.Deed, m.Yes, m.Token, m.Writes = 7, true, "t", sample(0, 1, 4, 7)
		want(t, "Order", x.Order(s, m), api.OK)
		if x.Len() != 1 {
			t.Fatalf("%d are on their way", x.Len())
		}
		flow(t, x, 20)
		if got := lastSure(x, 0, s); !bytes.Equal(got, cell.Encode(plain)) {
			t.Errorf("%+v: %x is sure", m, got)
		}
		if !reflect.DeepEqual(x.Sure(0, 1-s), was) {
			t.Error("the other shard has it, too")
		}
	}
	if x.State(0, 0).Safe != at(11, 2, 3) || x.State(0, 1).Safe != at(0, 0, 0) {
		t.Errorf("%+v, %+v", x.State(0, 0), x.State(0, 1))
	}
}

func TestP18_4OrderErrors(t *testing.T) {
	x := led(t, conf(2, 2))
	for _, kind := range []int{0, begin, decide, prepare, resolve, closes, tick, 10, -1, math.MinInt, math.MaxInt} {
		refuses(t, x, fmt.Sprint("Order of ", kind), func() api.Errno { return x.Order(0, cell.Cmd{Kind: kind, Token: "t"}) }, api.ErrArg)
	}
	for _, s := range []int{-1, 2, math.MinInt, math.MaxInt} {
		refuses(t, x, "Order", func() api.Errno { return x.Order(s, cell.Cmd{Kind: cut}) }, api.ErrArg)
	}
	// A stamp that isn't right has no bytes that are a letter's.
	for _, m := range []cell.Cmd{{Kind: cut, At: at(-1, 0, 0)}, {Kind: pin, At: at(maxWall+1, 0, 0), N: 1}} {
		want(t, "Order", x.Order(0, m), api.OK)
		want(t, "Deliver", x.Deliver(0, 20), api.ErrForm)
	}
	for x.Len() < maxQueue {
		want(t, "Order", x.Order(0, cell.Cmd{Kind: cut}), api.OK)
	}
	refuses(t, x, "Order", func() api.Errno { return x.Order(0, cell.Cmd{Kind: cut}) }, api.ErrFull)
	refuses(t, x, "Order of no kind", func() api.Errno { return x.Order(0, cell.Cmd{}) }, api.ErrArg)
}

// A pin keeps what is cut without it.
func TestP18_4OrderOfPins(t *testing.T) {
	x := led(t, conf(1, 1))
	phys := rounds(t, x, 3, 20)
	want(t, "Order", x.Order(0, cell.Cmd{Kind: pin, Id: 3, At: at(15, 0, 0), N: 4}), api.OK)
	want(t, "Order", x.Order(0, cell.Cmd{Kind: cut, At: at(16, 0, 0)}), api.OK)
	flow(t, x, phys)
	if x.State(0, 0).Safe != at(0, 0, 0) {
		t.Fatalf("%+v", x.State(0, 0))
	}
	phys = rounds(t, x, 4, phys)
	want(t, "Order", x.Order(0, cell.Cmd{Kind: cut, At: at(16, 0, 0)}), api.OK)
	flow(t, x, phys)
	if x.State(0, 0).Safe != at(16, 0, 0) {
		t.Fatalf("%+v", x.State(0, 0))
	}
	if _, e := x.Ask(0, ask.Query{To: 9}, at(15, maxTick, maxTick)); e != api.ErrTooOld {
		t.Errorf("error %d", e)
	}
}

// crowd is a tide with many series in all shards, and what stands there, in
// order.
func crowd(t *testing.T, shards int) (*tide.Tide, []api.Point, api.Stamp) {
	t.Helper()
	x := led(t, conf(3, shards))
	var l []api.Write
	for i := range 16 {
		set := []api.Pair{{Name: string(rune('a' + i%3)), Value: fmt.Sprint(i * 7 % 16)}}
		l = append(l,
			api.Write{Set: set, Time: int64(i % 4), Kind: api.Sample, Num: int64(i)},
			api.Write{Set: set, Time: 5, Kind: api.Note, Text: fmt.Sprint("n", i)},
			api.Write{Set: set, Time: 7, Kind: api.Sample, Num: int64(-i)},
			api.Write{Set: set, Time: 9, Kind: api.Note, Text: fmt.Sprint("m", i)})
	}
	r, phys := settle(t, x, "t", l, 20)
	if r.State != done {
		t.Fatalf("%+v", r)
	}
	rounds(t, x, 10, phys)
	homes := map[int]bool{}
	var points []api.Point
	for _, w := range l {
		homes[node.Home(label.Text(w.Set), shards)] = true
		points = append(points, api.Point{Set: w.Set, Time: w.Time, Kind: w.Kind, Num: w.Num, Text: w.Text, At: r.At})
	}
	if len(homes) != shards {
		t.Fatalf("the series lie in %v", homes)
	}
	slices.SortFunc(points, func(a, b api.Point) int {
		if c := label.Compare(a.Set, b.Set); c != 0 {
			return c
		}
		return int(a.Time - b.Time)
	})
	return x, points, r.At
}

// What all shards tell comes in the order of its sets.
func TestP18_4Ask(t *testing.T) {
	for shards := 1; shards <= 4; shards++ {
		x, points, last := crowd(t, shards)
		rules, n := match.Parse(`{a!="",b=""}`)
		if n == 0 {
			t.Fatal("no rules")
		}
		for _, q := range []ask.Query{
			{To: 10}, {To: 10, Notes: true}, {From: 5, To: 6, Notes: true}, {From: 5, To: 7}, {From: 6, To: 6, Notes: true}, {Rules: rules, To: 9, Notes: true},
			{Op: tally.Sum, To: 10, Step: 3}, {Op: tally.Count, To: 10, Step: 10, Notes: true}, {Op: tally.Delta, Rules: rules, From: 1, To: 8, Step: 2},
			{Op: tally.Min, To: maxWall, Step: maxWall}, {Op: tally.Max, From: 2, To: 8, Step: 6},
		} {
			want, e := ask.Run(q, points)
			if e != api.OK {
				t.Fatalf("%+v: error %d", q, e)
			}
			for n := range 3 {
				if got, e := x.Ask(n, q, last); e != api.OK || fmt.Sprint(got) != fmt.Sprint(want) {
					t.Errorf("%d shards, %+v: %d tells %v, error %d, want %v", shards, q, n, got, e, want)
				}
				early := last
				early.Mark--
				if got, e := x.Ask(n, q, early); e != api.OK || len(got.Rows)+len(got.Notes) != 0 {
					t.Errorf("%d shards, %+v: ahead of the batch %d tells %v, error %d", shards, q, n, got, e)
				}
			}
		}
	}
}

// spoil writes into the spare room behind a list.
func spoil[T any](l []T, junk T) {
	l = l[:cap(l)]
	for i := range l {
		l[i] = junk
	}
}

// spare is the room behind a list's end.
func spare[T any](l []T) []T { return l[len(l):cap(l)] }

// What is answered is new memory, of which no two lists share any.
func TestP18_4AskIsNew(t *testing.T) {
	x, _, last := crowd(t, 3)
	q := ask.Query{To: 10, Notes: true}
	a, e := x.Ask(1, q, last)
	want(t, "Ask", e, api.OK)
	was := fmt.Sprint(a)
	junk := api.Pair{Name: "junk", Value: "junk"}
	spoil(spare(a.Rows), ask.Row{Set: []api.Pair{junk}})
	spoil(spare(a.Notes), api.Point{Text: "junk"})
	for i := range a.Rows {
		spoil(spare(a.Rows[i].Set), junk)
		spoil(spare(a.Rows[i].Cells), tally.Cell{From: -1})
	}
	for i := range a.Notes {
		spoil(spare(a.Notes[i].Set), junk)
	}
	if is := fmt.Sprint(a); is != was {
		t.Errorf("is %s, was %s", is, was)
	}
	for i := range a.Rows {
		spoil(a.Rows[i].Set, junk)
		spoil(a.Rows[i].Cells, tally.Cell{From: -1})
	}
	for i := range a.Notes {
		if fmt.Sprint(a.Notes[i].Set) == fmt.Sprint([]api.Pair{junk}) {
			t.Fatal("a note shares its set with a row")
		}
		spoil(a.Notes[i].Set, junk)
	}
	spoil(x.Sure(1, 0)[0], 77)
	spoil(x.State(1, 0).View.Members, 77)
	spoil(x.View(0).Members, 77)
	if b, e := x.Ask(1, q, last); e != api.OK || fmt.Sprint(b) != was {
		t.Errorf("is %v, error %d, was %s", b, e, was)
	}
	rounds(t, x, 3, 200)
}

// What is asked with isn't changed.
func TestP18_4AskChangesNothing(t *testing.T) {
	x, _, last := crowd(t, 2)
	rules := []match.Rule{{Name: "a", Op: match.Is, Value: "1"}, {Name: "b", Op: match.Not, Value: "2"}}
	q := ask.Query{Rules: rules[:1], To: 10}
	was := fmt.Sprint(rules)
	_, e := x.Ask(0, q, last)
	want(t, "Ask", e, api.OK)
	if fmt.Sprint(rules) != was {
		t.Errorf("%v, was %s", rules, was)
	}
}

// The first shard that has an error tells it, and no shard else.
func TestP18_4AskErrors(t *testing.T) {
	for _, s := range []int{0, 1} {
		// The other shard has no view, and closes nothing.
		x := newTide(t, conf(1, 2), 1<<20)
		want(t, "Announce", x.Announce(s), api.OK)
		r, phys := settle(t, x, tokenOf(s, 2, 0), sample(s, 2, 4, 7), 10)
		phys = rounds(t, x, 3, phys)
		if r.State != done {
			t.Fatalf("%+v", r)
		}
		for _, q := range []struct {
			q    ask.Query
			at   api.Stamp
			want api.Errno
		}{
			{ask.Query{To: 9}, r.At, api.ErrWait}, {ask.Query{To: 9}, at(maxWall, 0, 0), api.ErrWait}, {ask.Query{To: 9}, at(-1, 0, 0), api.ErrArg},
			{ask.Query{To: 9}, at(maxWall+1, 0, 0), api.ErrArg}, {ask.Query{Op: 6, To: 9, Step: 1}, r.At, api.ErrArg}, {ask.Query{From: 2, To: 1}, r.At, api.ErrArg},
			{ask.Query{Op: tally.Sum, To: 9}, r.At, api.ErrArg}, {ask.Query{To: maxWall + 1}, r.At, api.ErrArg},
		} {
			refuses(t, x, fmt.Sprintf("Ask of %+v at %v", q.q, q.at), func() api.Errno {
				a, e := x.Ask(0, q.q, q.at)
				if !reflect.DeepEqual(a, ask.Answer{}) {
					t.Errorf("%+v beside an error", a)
				}
				return e
			}, q.want)
		}
		want(t, "Order", x.Order(s, cell.Cmd{Kind: cut, At: r.At}), api.OK)
		flow(t, x, phys)
		early := r.At
		early.Mark--
		if _, e := x.Ask(0, ask.Query{To: 9}, early); e != []api.Errno{api.ErrTooOld, api.ErrWait}[s] {
			t.Errorf("the shard %d is cut: error %d", s, e)
		}
		want(t, "Announce", x.Announce(1-s), api.OK)
		rounds(t, x, 2, phys)
		if _, e := x.Ask(0, ask.Query{To: 9}, early); e != api.ErrTooOld {
			t.Errorf("the shard %d is cut: error %d", s, e)
		}
		if a, e := x.Ask(0, ask.Query{To: 9}, r.At); e != api.OK || len(a.Rows) != 1 {
			t.Errorf("%+v, error %d", a, e)
		}
	}
}

// What stands behind a part that is held can't be read, whichever shard has it.
func TestP18_4AskPending(t *testing.T) {
	for home := range 2 {
		x := newTide(t, conf(2, 2), 1<<20)
		want(t, "Change", x.Change(home, 0, []int{0}), api.OK)
		want(t, "Change", x.Change(1-home, 1, []int{0, 1}), api.OK)
		rounds(t, x, 3, 10)
		flow(t, x, 12)
		token, l := tokenOf(home, 2, 0), append(sample(1, 2, 4, 7), sample(0, 2, 4, 7)...)
		want(t, "Submit", x.Submit(token, l), api.OK)
		flow(t, x, 12)
		want(t, "Tick", x.Tick(0, 13), api.OK)
		for x.Len() > 0 {
			want(t, "Lose", x.Lose(0), api.OK)
		}
		if x.State(0, home).Held != 1 || x.State(1, 1-home).Held != 0 {
			t.Fatalf("%+v, %+v", x.State(0, home), x.State(1, 1-home))
		}
		early, late := at(13, 0, 0), at(14, 0, 0)
		if _, e := x.Ask(0, ask.Query{To: 9}, late); e != api.ErrWait {
			t.Errorf("home %d: error %d", home, e)
		}
		want(t, "Tick", x.Tick(0, 20), api.OK)
		for x.Len() > 0 {
			want(t, "Lose", x.Lose(0), api.OK)
		}
		for range 2 {
			want(t, "Tick", x.Tick(1, 20), api.OK)
			flow(t, x, 20)
		}
		if a, e := x.Ask(0, ask.Query{To: 9}, late); e != api.ErrPending || !reflect.DeepEqual(a, ask.Answer{}) {
			t.Errorf("home %d: %+v, error %d", home, a, e)
		}
		if a, e := x.Ask(0, ask.Query{To: 9}, early); e != api.OK || len(a.Rows) != 0 {
			t.Errorf("home %d: %+v, error %d", home, a, e)
		}
		r, _ := settle(t, x, token, l, 21)
		rounds(t, x, 5, 60)
		if a, e := x.Ask(0, ask.Query{To: 9}, r.At); e != api.OK || len(a.Rows) != 2 || r.State != done {
			t.Errorf("home %d: %+v, error %d, %+v", home, a, e, r)
		}
	}
}

func TestP18_4Config(t *testing.T) {
	for _, c := range []node.Config{conf(1, 1), {Nodes: 8, Shards: 4, Offset: maxOffset, Patience: 1000}, {Nodes: 2, Shards: 3, Patience: 1}} {
		if got := newTide(t, c, 1<<20).Config(); got != c {
			t.Errorf("%+v, want %+v", got, c)
		}
	}
}

// Clients call whoever leads by the control, whatever the nodes know.
func TestP18_4CallsByTheControl(t *testing.T) {
	x := led(t, conf(3, 1))
	want(t, "Change", x.Change(0, 2, []int{2}), api.OK)
	for range 3 {
		want(t, "Lose", x.Lose(0), api.OK)
	}
	want(t, "Crash", x.Crash(2, nil), api.OK)
	for _, call := range []func() api.Errno{
		func() api.Errno { return x.Submit("t", sample(0, 1, 1, 1)) },
		func() api.Errno { return x.Order(0, cell.Cmd{Kind: retain, N: 3}) },
	} {
		was := x.State(0, 0)
		want(t, "the call", call(), api.OK)
		if x.Len() != 1 {
			t.Fatalf("%d are on their way", x.Len())
		}
		flow(t, x, 20)
		if is := x.State(0, 0); !reflect.DeepEqual(is, was) {
			t.Errorf("is %+v, was %+v", is, was)
		}
	}
	want(t, "Start", x.Start(2), api.OK)
	want(t, "Announce", x.Announce(0), api.OK)
	flow(t, x, 20)
	want(t, "Submit", x.Submit("t", sample(0, 1, 1, 1)), api.OK)
	flow(t, x, 20)
	if x.State(2, 0).Open != 1 {
		t.Errorf("%+v", x.State(2, 0))
	}
}
