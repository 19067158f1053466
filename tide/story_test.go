package tide_test

import (
	"fmt"
	"slices"
	"testing"

	"slackwater/api"
	"slackwater/ask"
	"slackwater/cell"
	"slackwater/stamp"
	"slackwater/tide"
)

// Tests of P18.5 to P18.7 by stories, most of them the examples of the whole.

// all asks for all that there is.
var all = ask.Query{To: 100, Notes: true}

// noteOf is a write of a note, whose stamp an answer tells.
func noteOf(home, shards int, time int64, text string) api.Write {
	return api.Write{Set: setOf(home, shards, 0), Time: time, Kind: api.Note, Text: text}
}

// wantTold holds what each of some nodes tells at a stamp.
func wantTold(t *testing.T, what string, x *tide.Tide, nodes []int, at api.Stamp, told string, e api.Errno) {
	t.Helper()
	for _, n := range nodes {
		if a, got := x.Ask(n, all, at); got != e || e == api.OK && fmt.Sprint(a) != told {
			t.Errorf("%s: %d tells at %v %v, error %d, want %s, error %d", what, n, at, a, got, told, e)
		}
	}
}

// A batch of two shards is told at its stamp by its whole, and ahead of it not
// at all, by members; who isn't one, and hasn't closed so far, tells nothing.
func TestP18_5WholeBatch(t *testing.T) {
	x := led(t, conf(4, 1))
	l := []api.Write{noteOf(0, 1, 3, "n"), sample(0, 1, 4, 7)[0]}
	r, phys := settle(t, x, "t", l, 20)
	rounds(t, x, 4, phys)
	early := r.At
	early.Mark--
	told := fmt.Sprintf("{[{%v [{4 7}]}] [{%v 3 2 0 n %v}]}", l[0].Set, l[0].Set, r.At)
	wantTold(t, "at the batch's stamp", x, []int{0, 1, 2}, r.At, told, api.OK)
	wantTold(t, "ahead of it", x, []int{0, 1, 2}, early, "{[] []}", api.OK)
	wantTold(t, "of no member", x, []int{3}, r.At, "", api.ErrWait)
	wantTold(t, "far behind", x, []int{0, 1, 2, 3}, at(maxWall, 0, 0), "", api.ErrWait)
}

// What was answered stays, whatever is done then, and however low readings are.
func TestP18_6Again(t *testing.T) {
	x := led(t, conf(3, 2))
	nodes := []int{0, 1, 2}
	l := []api.Write{noteOf(0, 2, 3, "a"), noteOf(1, 2, 3, "b")}
	r, phys := settle(t, x, tokenOf(0, 2, 0), l, 20)
	rounds(t, x, 4, phys)
	seen := x.State(0, 0).Closed
	for s := range 2 {
		for n := range 3 {
			if c := x.State(n, s).Closed; stamp.Compare(c, seen) < 0 {
				seen = c
			}
		}
	}
	a, e := x.Ask(0, all, seen)
	told := fmt.Sprint(a)
	if e != api.OK || len(a.Notes) != 2 || stamp.Compare(r.At, seen) > 0 {
		t.Fatalf("%v, error %d, %v, %v", a, e, r, seen)
	}
	wantTold(t, "at first", x, nodes, seen, told, api.OK)
	// Clocks go back to 1, and the same points are written to.
	later := []api.Write{{Set: l[0].Set, Time: 3, Kind: api.Gone}, noteOf(1, 2, 3, "c")}
	r2, _ := settle(t, x, tokenOf(1, 2, 0), later, 1)
	if r2.State != done || stamp.Compare(r2.At, seen) <= 0 {
		t.Errorf("%+v, but at %v was answered", r2, seen)
	}
	wantTold(t, "behind a later batch", x, nodes, seen, told, api.OK)
	// Another one leads, and then all crash.
	want(t, "Crash", x.Crash(0, nil), api.OK)
	want(t, "Change", x.Change(0, 1, []int{1, 2}), api.OK)
	want(t, "Change", x.Change(1, 2, []int{1, 2}), api.OK)
	for i := range 4 {
		flow(t, x, int64(50+i))
		want(t, "Tick", x.Tick(1, int64(50+i)), api.OK)
		want(t, "Tick", x.Tick(2, int64(50+i)), api.OK)
	}
	wantTold(t, "of another view", x, nodes[1:], seen, told, api.OK)
	want(t, "Start", x.Start(0), api.OK)
	wantTold(t, "at who has all to learn anew", x, nodes[:1], seen, "", api.ErrWait)
	want(t, "Change", x.Change(0, 1, nodes), api.OK)
	want(t, "Change", x.Change(1, 2, nodes), api.OK)
	rounds(t, x, 8, 60)
	flow(t, x, 68)
	wantTold(t, "when it is a member again", x, nodes, seen, told, api.OK)
	// What is cut is refused, and not told otherwise.
	behind := seen
	behind.Wall++
	for s := range 2 {
		want(t, "Order", x.Order(s, cell.Cmd{Kind: cut, At: behind}), api.OK)
	}
	rounds(t, x, 4, 70)
	wantTold(t, "behind a cut", x, nodes, seen, "", api.ErrTooOld)
}

// An old primary that knows of no other view commits nothing any more; what it
// tells at a closed stamp is still right.
func TestP18_6OldPrimary(t *testing.T) {
	x := led(t, conf(3, 1))
	r, phys := settle(t, x, "t", []api.Write{noteOf(0, 1, 3, "a")}, 20)
	phys = rounds(t, x, 4, phys)
	flow(t, x, phys)
	told := fmt.Sprintf("{[] [{%v 3 2 0 a %v}]}", setOf(0, 1, 0), r.At)
	want(t, "Change", x.Change(0, 1, []int{1, 2}), api.OK)
	want(t, "Lose", x.Lose(0), api.OK) // the old one isn't told
	flow(t, x, phys)
	old := x.State(0, 0)
	for i := range 6 {
		for n := range 3 {
			want(t, "Tick", x.Tick(n, phys+int64(i)), api.OK)
		}
		flow(t, x, phys+int64(i))
	}
	if is := x.State(0, 0); !is.Active || is.Sure != old.Sure || is.Closed != old.Closed || is.Len == old.Len {
		t.Errorf("is %+v, was %+v", is, old)
	}
	r2, phys := settle(t, x, "u", []api.Write{noteOf(0, 1, 3, "b")}, phys+6)
	rounds(t, x, 3, phys)
	if r2.State != done || stamp.Compare(r2.At, r.At) <= 0 {
		t.Errorf("%+v, %+v", r, r2)
	}
	wantTold(t, "at the batch's stamp", x, []int{0, 1, 2}, r.At, told, api.OK)
	wantTold(t, "at the last stamp of the old one", x, []int{0, 1, 2}, old.Closed, told, api.OK)
	wantTold(t, "at the next batch's", x, []int{0}, r2.At, "", api.ErrWait)
}

// A primary crashes behind having decided: the next one tells it as decided,
// and whatever comes once more is done no more.
func TestP18_7Once(t *testing.T) {
	x := led(t, conf(3, 2))
	token := tokenOf(0, 2, 0)
	l := []api.Write{noteOf(0, 2, 3, "a"), noteOf(1, 2, 3, "a")}
	// Calls that arrive much later, at whoever leads then.
	for range 3 {
		want(t, "Submit", x.Submit(token, l), api.OK)
		want(t, "Twice", x.Twice(0), api.OK)
	}
	phys := int64(20)
	for range 12 {
		for x.Len() > 4 {
			want(t, "Deliver", x.Deliver(4, phys), api.OK)
		}
		want(t, "Submit", x.Submit(token, l), api.OK)
		for n := range 3 {
			want(t, "Tick", x.Tick(n, phys), api.OK)
		}
		phys++
	}
	r, ok := x.Fate(token)
	if !ok || r.State != done {
		t.Fatalf("%+v", r)
	}
	want(t, "Crash", x.Crash(0, nil), api.OK)
	want(t, "Change", x.Change(0, 2, []int{1, 2}), api.OK)
	want(t, "Change", x.Change(1, 1, []int{1, 2}), api.OK)
	want(t, "Start", x.Start(0), api.OK)
	phys = rounds(t, x, 6, phys)
	other := []api.Write{noteOf(0, 2, 5, "other")}
	for i := range 6 {
		want(t, "Submit", x.Submit(token, [][]api.Write{l, other}[i%2]), api.OK)
		phys = rounds(t, x, 2, phys)
		wantFate(t, x, token, r, true)
	}
	// Another batch is another deed.
	r2, phys := settle(t, x, tokenOf(0, 2, 1), other, phys)
	if r2.State != done || r2.Deed == r.Deed || r2.At == r.At {
		t.Errorf("%+v, %+v", r, r2)
	}
	rounds(t, x, 4, phys)
	for _, n := range []int{1, 2} {
		a, e := x.Ask(n, all, r2.At)
		var ats []api.Stamp
		for _, p := range a.Notes {
			ats = append(ats, p.At)
		}
		if e != api.OK || len(ats) != 3 || !slices.Contains(ats, r2.At) || slices.Index(ats, r.At) < 0 {
			t.Errorf("%d tells %v, error %d", n, a, e)
		}
		for _, p := range a.Notes {
			if p.Text == "a" && p.At != r.At {
				t.Errorf("%d tells %v", n, p)
			}
		}
	}
}

// A clock that is years ahead: others refuse its stamps, and the batch is
// dropped when patience ends.
func TestP18_7YearsAhead(t *testing.T) {
	x := newTide(t, conf(2, 2), 1<<20)
	for s := range 2 {
		want(t, "Change", x.Change(s, s, []int{s}), api.OK)
	}
	token, l := tokenOf(0, 2, 0), sample(1, 2, 4, 7)
	refused, phys := 0, int64(10)
	for range 30 {
		want(t, "Submit", x.Submit(token, l), api.OK)
		for n := x.Len(); n > 0; n-- {
			switch e := x.Deliver(0, phys); e {
			case api.OK:
			case api.ErrOffset:
				refused++
			default:
				t.Fatalf("Deliver: error %d", e)
			}
		}
		want(t, "Tick", x.Tick(0, phys+1000000), api.OK)
		want(t, "Tick", x.Tick(1, phys), api.OK)
		phys++
	}
	if r, _ := x.Fate(token); r.State != dropped || r.At != at(0, 0, 0) || refused == 0 {
		t.Fatalf("%+v, %d refused", r, refused)
	}
	// It stays so when the clocks agree.
	r, _ := settle(t, x, token, l, 2000000)
	if r.State != dropped {
		t.Errorf("%+v", r)
	}
	phys = rounds(t, x, 6, 2000050)
	if a, e := x.Ask(1, all, at(10, 0, 0)); e != api.ErrWait {
		t.Errorf("%v, error %d: it doesn't hold the shard 0", a, e)
	}
	want(t, "Change", x.Change(0, 0, []int{0, 1}), api.OK)
	phys = rounds(t, x, 6, phys)
	if a, e := x.Ask(1, all, at(phys-4, 0, 0)); e != api.OK || len(a.Rows) != 0 {
		t.Errorf("%v, error %d", a, e)
	}
}
