package relay_test

import (
	"bytes"
	"fmt"
	"math"
	"reflect"
	"slices"
	"testing"

	"slackwater/api"
	"slackwater/relay"
	"slackwater/view"
)

// The limits stand here as numbers, so that the tests hold them, too.
const (
	maxWall  = 1 << 62
	maxNodes = 8
	maxLog   = 4096
	maxCmd   = 1 << 18
	maxShips = 16
)

func TestP16_1Numbers(t *testing.T) {
	if relay.MaxCmd != maxCmd || relay.MaxShips != maxShips {
		t.Errorf("%d, %d", relay.MaxCmd, relay.MaxShips)
	}
	if relay.Offer != 1 || relay.Ship != 2 || relay.Ack != 3 {
		t.Errorf("%d, %d, %d", relay.Offer, relay.Ship, relay.Ack)
	}
}

func viewOf(epoch, primary int, members ...int) view.View {
	return view.View{Epoch: epoch, Primary: primary, Members: members}
}

// of are entries of an epoch, one for each command.
func of(epoch int, cmds ...string) []relay.Entry {
	var l []relay.Entry
	for _, c := range cmds {
		l = append(l, relay.Entry{Epoch: epoch, Cmd: []byte(c)})
	}
	return l
}

func make1(t *testing.T, id int) *relay.Relay {
	t.Helper()
	r, e := relay.New(id)
	if r == nil || e != api.OK {
		t.Fatalf("New(%d): %v, error %d", id, r, e)
	}
	return r
}

// led is a relay that was told of a view.
func led(t *testing.T, id int, v view.View) *relay.Relay {
	t.Helper()
	r := make1(t, id)
	lead(t, r, v)
	return r
}

// lead tells a relay of a view, which it promises.
func lead(t *testing.T, r *relay.Relay, v view.View) {
	t.Helper()
	recs, e := r.Lead(v)
	if e != api.OK || !sameRecs(recs, recPromise(v)) {
		t.Fatalf("Lead(%v): %x, error %d", v, recs, e)
	}
}

func sameRecs(got [][]byte, want ...[]byte) bool { return slices.EqualFunc(got, want, bytes.Equal) }

// tell is all that a relay tells of itself; nil and empty lists are one. What
// it ticks tells its acks.
func tell(r *relay.Relay) string {
	return fmt.Sprintf("%+v %t %d %+v %d %x %+v", r.View(), r.Active(), r.Sure(), r.Log(), r.Len(), r.Save(), r.Tick())
}

func sameMsgs(a, b []relay.Out) bool { return fmt.Sprintf("%+v", a) == fmt.Sprintf("%+v", b) }

func outs(l ...relay.Out) []relay.Out { return l }

func out(to int, m relay.Msg) relay.Out { return relay.Out{To: to, Msg: m} }

// offer, ship and ack are messages as relays send them.
func offer(v view.View, sure int, l []relay.Entry) relay.Msg {
	return relay.Msg{Kind: 1, Epoch: v.Epoch, View: v, Sure: sure, Log: l}
}

func ship(epoch, index, sure int, l []relay.Entry) relay.Msg {
	return relay.Msg{Kind: 2, Epoch: epoch, Index: index, Sure: sure, Log: l}
}

func ack(epoch, index int) relay.Msg {
	return relay.Msg{Kind: 3, Epoch: epoch, Index: index}
}

// take holds what a Take answers.
func take(t *testing.T, r *relay.Relay, from int, m relay.Msg, answers []relay.Out, recs ...[]byte) {
	t.Helper()
	gotRecs, gotOuts := r.Take(from, m)
	if !sameRecs(gotRecs, recs...) {
		t.Errorf("Take(%d, %+v): records %x, want %x", from, m, gotRecs, recs)
	}
	if !sameMsgs(gotOuts, answers) {
		t.Errorf("Take(%d, %+v): %+v, want %+v", from, m, gotOuts, answers)
	}
}

// ignore holds that a message changes nothing, and isn't answered.
func ignore(t *testing.T, r *relay.Relay, from int, m relay.Msg) {
	t.Helper()
	was := tell(r)
	take(t, r, from, m, nil)
	if is := tell(r); is != was {
		t.Errorf("Take(%d, %+v): is %s, was %s", from, m, is, was)
	}
}

// propose holds what a Propose answers, up to the members' number.
func propose(t *testing.T, r *relay.Relay, cmd string, at, sure int) {
	t.Helper()
	v := r.View()
	var want []relay.Out
	for _, n := range v.Members {
		if n != v.Primary {
			want = append(want, out(n, ship(v.Epoch, at, sure, of(v.Epoch, cmd))))
		}
	}
	gotAt, recs, got, e := r.Propose([]byte(cmd))
	if gotAt != at || e != api.OK || !sameRecs(recs, recEntry(at, v.Epoch, cmd)) || !sameMsgs(got, want) {
		t.Fatalf("Propose(%q): place %d, records %x, %+v, error %d, want %d, %+v", cmd, gotAt, recs, got, e, at, want)
	}
	if r.Sure() != sure || r.Len() != at {
		t.Fatalf("behind Propose(%q): sure %d of %d, want %d of %d", cmd, r.Sure(), r.Len(), sure, at)
	}
}

// refuse holds that a Propose is refused, and that nothing is another one then.
func refuse(t *testing.T, r *relay.Relay, cmd []byte, want api.Errno) {
	t.Helper()
	was := tell(r)
	at, recs, outs, e := r.Propose(cmd)
	if at != 0 || len(recs) != 0 || len(outs) != 0 || e != want {
		t.Errorf("Propose of %d bytes: %d, %x, %v, error %d, want error %d", len(cmd), at, recs, outs, e, want)
	}
	if is := tell(r); is != was {
		t.Errorf("Propose of %d bytes: is %s, was %s", len(cmd), is, was)
	}
}

func wantState(t *testing.T, r *relay.Relay, v view.View, active bool, sure int, l []relay.Entry) {
	t.Helper()
	got := fmt.Sprintf("%+v %t %d %+v", r.View(), r.Active(), r.Sure(), r.Log())
	if want := fmt.Sprintf("%+v %t %d %+v", v, active, sure, l); got != want {
		t.Errorf("the relay is %s, want %s", got, want)
	}
}

// tick holds what a Tick answers; it changes nothing.
func tick(t *testing.T, r *relay.Relay, want ...relay.Out) {
	t.Helper()
	for range 2 {
		if got := r.Tick(); !sameMsgs(got, want) {
			t.Errorf("Tick: %+v, want %+v", got, want)
		}
	}
}

func TestP16_1New(t *testing.T) {
	for id := range maxNodes {
		r := make1(t, id)
		wantState(t, r, view.View{}, false, 0, nil)
		if recs := r.Save(); len(recs) != 0 || r.Len() != 0 {
			t.Errorf("a new relay's Save: %x, Len %d", recs, r.Len())
		}
		tick(t, r)
		refuse(t, r, nil, api.ErrState)
	}
	for _, id := range []int{-1, maxNodes, maxNodes + 1, math.MinInt, math.MaxInt} {
		if r, e := relay.New(id); r != nil || e != api.ErrArg {
			t.Errorf("New(%d): %v, error %d", id, r, e)
		}
	}
}

func TestP16_1Lead(t *testing.T) {
	for _, c := range []struct {
		id     int
		v      view.View
		active bool
		isLed  bool
	}{
		{0, viewOf(1, 0, 0), true, true},
		{7, viewOf(1, 7, 7), true, true},
		{3, viewOf(maxWall, 3, 3), true, true},
		{0, viewOf(1, 0, 0, 1), false, true},
		{1, viewOf(5, 1, 0, 1, 2), false, true},
		{1, viewOf(5, 0, 0, 1), false, false},
		{2, viewOf(5, 0, 0, 1), false, false},
		{0, viewOf(1, 1, 1), false, false},
	} {
		r := led(t, c.id, c.v)
		wantState(t, r, c.v, c.active, 0, nil)
		recs := [][]byte{recPromise(c.v)}
		if c.isLed {
			recs = append(recs, recList(c.v.Epoch))
		}
		if got := r.Save(); !sameRecs(got, recs...) {
			t.Errorf("Lead(%v) of %d: Save %x, want %x", c.v, c.id, got, recs)
		}
	}
}

func TestP16_1LeadOfNoLaterView(t *testing.T) {
	r := led(t, 0, viewOf(5, 0, 0))
	propose(t, r, "a", 1, 1)
	for _, v := range []view.View{viewOf(5, 0, 0), viewOf(5, 1, 0, 1), viewOf(4, 1, 1), viewOf(1, 0, 0)} {
		was := tell(r)
		if recs, e := r.Lead(v); len(recs) != 0 || e != api.OK || tell(r) != was {
			t.Errorf("Lead(%v): %x, error %d, is %s, was %s", v, recs, e, tell(r), was)
		}
	}
	lead(t, r, viewOf(6, 1, 0, 1))
	wantState(t, r, viewOf(6, 1, 0, 1), false, 1, of(5, "a"))
}

func TestP16_1LeadOfNoRightView(t *testing.T) {
	for _, r := range []*relay.Relay{make1(t, 0), led(t, 0, viewOf(1, 0, 0))} {
		for _, v := range []view.View{
			{}, viewOf(0, 0, 0), viewOf(-1, 0, 0), viewOf(maxWall+1, 0, 0), viewOf(math.MinInt, 0, 0), viewOf(2, 0),
			viewOf(2, 1, 0), viewOf(2, 0, 0, 0), viewOf(2, 0, 1, 0), viewOf(2, -1, -1), viewOf(2, 8, 8), viewOf(2, 0, 0, 8),
		} {
			was := tell(r)
			if recs, e := r.Lead(v); len(recs) != 0 || e != api.ErrArg || tell(r) != was {
				t.Errorf("Lead(%v): %x, error %d, is %s, was %s", v, recs, e, tell(r), was)
			}
		}
	}
}

// In a later view nothing is acked, and what was joined stays, but for the
// primary's, until an Offer comes.
func TestP16_1LeadForgetsAcks(t *testing.T) {
	r := led(t, 0, viewOf(1, 0, 0, 1))
	take(t, r, 1, ack(1, 0), nil)
	propose(t, r, "a", 1, 0)
	take(t, r, 1, ack(1, 1), nil)
	wantState(t, r, viewOf(1, 0, 0, 1), true, 1, of(1, "a"))
	v := viewOf(2, 0, 0, 1, 2)
	lead(t, r, v)
	wantState(t, r, v, false, 1, of(1, "a"))
	tick(t, r, out(1, offer(v, 1, of(1, "a"))), out(2, offer(v, 1, of(1, "a"))))
	refuse(t, r, []byte("b"), api.ErrState)
	take(t, r, 1, ack(2, 1), nil)
	wantState(t, r, v, false, 1, of(1, "a"))
	take(t, r, 2, ack(2, 0), nil)
	wantState(t, r, v, true, 1, of(1, "a"))

	lead(t, r, viewOf(3, 1, 0, 1))
	wantState(t, r, viewOf(3, 1, 0, 1), false, 1, of(1, "a"))
	if got := r.Save(); !sameRecs(got, recPromise(viewOf(3, 1, 0, 1)), recList(2, of(1, "a")...)) {
		t.Errorf("Save: %x", got)
	}
	tick(t, r)
	// It is the primary again, of another one's epoch in between.
	lead(t, r, viewOf(4, 0, 0, 1))
	tick(t, r, out(1, offer(viewOf(4, 0, 0, 1), 1, of(1, "a"))))
	lead(t, r, viewOf(5, 0, 0))
	wantState(t, r, viewOf(5, 0, 0), true, 1, of(1, "a"))
}

// A primary of its own takes all that its log has as committed.
func TestP16_1LeadSettles(t *testing.T) {
	r := led(t, 0, viewOf(1, 0, 0, 1))
	take(t, r, 1, ack(1, 0), nil)
	propose(t, r, "a", 1, 0)
	propose(t, r, "b", 2, 0)
	lead(t, r, viewOf(2, 0, 0))
	wantState(t, r, viewOf(2, 0, 0), true, 2, of(1, "a", "b"))
}

func TestP16_1Propose(t *testing.T) {
	r := led(t, 0, viewOf(1, 0, 0))
	propose(t, r, "a", 1, 1)
	propose(t, r, "", 2, 2)
	propose(t, r, "a", 3, 3)
	wantState(t, r, viewOf(1, 0, 0), true, 3, of(1, "a", "", "a"))
	lead(t, r, viewOf(9, 0, 0))
	propose(t, r, "\x00\xff", 4, 4)
	wantState(t, r, viewOf(9, 0, 0), true, 4, append(of(1, "a", "", "a"), of(9, "\x00\xff")...))
}

func TestP16_1ProposeShips(t *testing.T) {
	r := led(t, 2, viewOf(3, 2, 0, 2, 5, 7))
	for _, n := range []int{7, 0} {
		take(t, r, n, ack(3, 0), nil)
		refuse(t, r, []byte("a"), api.ErrState)
	}
	take(t, r, 5, ack(3, 0), nil)
	propose(t, r, "a", 1, 0)
	propose(t, r, "b", 2, 0)
	take(t, r, 7, ack(3, 2), nil)
	take(t, r, 0, ack(3, 2), nil)
	propose(t, r, "c", 3, 0)
	take(t, r, 5, ack(3, 1), nil)
	propose(t, r, "d", 4, 1)
	wantState(t, r, viewOf(3, 2, 0, 2, 5, 7), true, 1, of(3, "a", "b", "c", "d"))
}

func TestP16_1ProposeErrors(t *testing.T) {
	long := make([]byte, maxCmd+1)
	var none *relay.Relay
	if at, recs, outs, e := none.Propose(long); at != 0 || recs != nil || outs != nil || e != api.ErrNil {
		t.Errorf("of a nil relay: %d, %x, %v, error %d", at, recs, outs, e)
	}
	for _, c := range []struct {
		what string
		r    *relay.Relay
	}{
		{"no view", make1(t, 0)},
		{"no view", make1(t, 1)},
		{"a member", led(t, 1, viewOf(1, 0, 0, 1))},
		{"none", led(t, 2, viewOf(1, 0, 0, 1))},
		{"not active", led(t, 0, viewOf(1, 0, 0, 1))},
	} {
		refuse(t, c.r, long, api.ErrLimit)
		refuse(t, c.r, long[:maxCmd], api.ErrState)
		refuse(t, c.r, nil, api.ErrState)
	}
	r := led(t, 0, viewOf(1, 0, 0))
	refuse(t, r, long, api.ErrLimit)
	if at, _, _, e := r.Propose(long[:maxCmd]); at != 1 || e != api.OK || r.Sure() != 1 {
		t.Errorf("Propose of %d bytes: %d, error %d", maxCmd, at, e)
	}
}

// full is a log of as many entries as there may be.
func full(epoch int) []relay.Entry {
	l := make([]relay.Entry, maxLog)
	for i := range l {
		l[i] = relay.Entry{Epoch: epoch, Cmd: fmt.Append(nil, i)}
	}
	return l
}

func TestP16_1ProposeToFullLog(t *testing.T) {
	r := led(t, 0, viewOf(1, 0, 0))
	for i, x := range full(1) {
		if at, _, _, e := r.Propose(x.Cmd); at != i+1 || e != api.OK {
			t.Fatalf("the entry %d: %d, error %d", i, at, e)
		}
	}
	refuse(t, r, []byte("a"), api.ErrFull)
	refuse(t, r, make([]byte, maxCmd+1), api.ErrLimit)
	wantState(t, r, viewOf(1, 0, 0), true, maxLog, full(1))
	lead(t, r, viewOf(2, 0, 0, 1))
	refuse(t, r, []byte("a"), api.ErrState)
}

func TestP16_1TakeOffer(t *testing.T) {
	v := viewOf(5, 0, 0, 1, 3)
	for _, c := range []struct {
		what string
		r    *relay.Relay
		l    []relay.Entry
		sure int // the message's
		want int
	}{
		{"a new one", make1(t, 1), of(4, "a", "b"), 0, 0},
		{"a new one, with sure entries", make1(t, 3), of(4, "a", "b"), 1, 1},
		{"with more sure ones than entries", make1(t, 1), of(4, "a", "b"), 3, 2},
		{"with the greatest number of sure ones", make1(t, 1), of(4, "a", "b"), math.MaxInt, 2},
		{"with less than none sure", make1(t, 1), of(4, "a", "b"), -1, 0},
		{"with the least number of sure ones", make1(t, 1), of(4, "a", "b"), math.MinInt, 0},
		{"of no entries", make1(t, 1), nil, 1, 0},
		{"of a full log", make1(t, 1), full(1), 4000, 4000},
		{"one of an earlier view", led(t, 1, viewOf(4, 1, 1)), of(4, "a"), 1, 1},
		{"one of an earlier view without it", led(t, 1, viewOf(4, 2, 2, 3)), of(4, "a"), 0, 0},
	} {
		take(t, c.r, 0, offer(v, c.sure, c.l), outs(out(0, ack(5, len(c.l)))), recPromise(v), recList(5, c.l...))
		wantState(t, c.r, v, false, c.want, c.l)
		if got := c.r.Save(); !sameRecs(got, recPromise(v), recList(5, c.l...)) {
			t.Errorf("%s: Save %x", c.what, got)
		}
	}
}

// A view that is held, but wasn't joined: the log is taken whatever its length.
func TestP16_1TakeOfferOfHeldView(t *testing.T) {
	v := viewOf(5, 0, 0, 1)
	r := led(t, 1, viewOf(4, 1, 1))
	propose(t, r, "a", 1, 1)
	propose(t, r, "b", 2, 2)
	lead(t, r, v)
	take(t, r, 0, offer(v, 0, of(3, "c")), outs(out(0, ack(5, 1))), recList(5, of(3, "c")...))
	wantState(t, r, v, false, 2, of(3, "c"))
	// From now on a shorter one comes late; one as long is taken.
	take(t, r, 0, offer(v, 0, nil), outs(out(0, ack(5, 1))))
	wantState(t, r, v, false, 2, of(3, "c"))
	take(t, r, 0, offer(v, 0, of(3, "d")), outs(out(0, ack(5, 1))), recList(5, of(3, "d")...))
	take(t, r, 0, offer(v, 4, of(5, "d", "e", "f")), outs(out(0, ack(5, 3))), recList(5, of(5, "d", "e", "f")...))
	wantState(t, r, v, false, 3, of(5, "d", "e", "f"))
	take(t, r, 0, offer(v, 0, of(5, "x", "y")), outs(out(0, ack(5, 3))))
	wantState(t, r, v, false, 3, of(5, "d", "e", "f"))
	// The primary alone picks whose view it is.
	w := viewOf(5, 0, 0, 1, 2)
	take(t, r, 0, offer(w, 0, of(5, "d", "e", "f")), outs(out(0, ack(5, 3))), recList(5, of(5, "d", "e", "f")...))
	wantState(t, r, v, false, 3, of(5, "d", "e", "f"))
}

// A late message's number of sure entries takes none back.
func TestP16_1TakeOfferOfLessSure(t *testing.T) {
	r := make1(t, 1)
	v := viewOf(5, 0, 0, 1)
	take(t, r, 0, offer(v, 2, of(5, "a", "b")), outs(out(0, ack(5, 2))), recPromise(v), recList(5, of(5, "a", "b")...))
	take(t, r, 0, offer(v, 1, of(5, "a")), outs(out(0, ack(5, 2))))
	take(t, r, 0, ship(5, 2, 0, nil), outs(out(0, ack(5, 2))))
	wantState(t, r, v, false, 2, of(5, "a", "b"))
}

func TestP16_1TakeNoOffer(t *testing.T) {
	long := relay.Entry{Epoch: 1, Cmd: make([]byte, maxCmd+1)}
	for _, r := range []*relay.Relay{make1(t, 1), led(t, 1, viewOf(4, 1, 1)), led(t, 1, viewOf(5, 0, 0, 1))} {
		for _, v := range []view.View{
			{}, viewOf(0, 0, 0, 1), viewOf(-1, 0, 0, 1), viewOf(maxWall+1, 0, 0, 1), viewOf(5, 0, 1, 0), viewOf(5, 0, 0, 1, 1),
			viewOf(5, 0, 1), viewOf(5, 0, 0, 1, 8), viewOf(5, 0, -1, 0, 1),
		} {
			ignore(t, r, 0, offer(v, 0, nil))
		}
		v := viewOf(5, 0, 0, 1, 3)
		for _, epoch := range []int{4, 6, 0, -5} {
			m := offer(v, 0, nil)
			m.Epoch = epoch
			ignore(t, r, 0, m)
		}
		for _, from := range []int{1, 3, 2, -1, 8, math.MinInt, math.MaxInt} {
			ignore(t, r, from, offer(v, 0, nil))
		}
		ignore(t, r, 1, offer(viewOf(5, 1, 0, 1), 0, nil))
		ignore(t, r, 0, offer(viewOf(5, 0, 0, 2), 0, nil))
		ignore(t, r, 0, offer(v, 0, append(full(1), full(1)[0])))
		ignore(t, r, 0, offer(v, 0, []relay.Entry{long}))
		ignore(t, r, 0, offer(v, 0, []relay.Entry{{Epoch: 1}, long, {Epoch: 1}}))
	}
	r := led(t, 1, viewOf(5, 0, 0, 1))
	ignore(t, r, 0, offer(viewOf(4, 0, 0, 1), 0, of(4, "a")))
	ignore(t, r, 2, offer(viewOf(5, 2, 1, 2), 0, of(4, "a")))
	r = led(t, 1, viewOf(5, 1, 0, 1))
	ignore(t, r, 0, offer(viewOf(5, 0, 0, 1), 0, of(4, "a")))
	ignore(t, r, 0, offer(viewOf(4, 0, 0, 1), 0, of(4, "a")))
}

// A command may be so long.
func TestP16_1TakeLongCommands(t *testing.T) {
	v := viewOf(5, 0, 0, 1)
	x := relay.Entry{Epoch: 5, Cmd: bytes.Repeat([]byte("a"), maxCmd)}
	r := make1(t, 1)
	recs, answers := r.Take(0, offer(v, 0, []relay.Entry{x}))
	if len(recs) != 2 || !sameMsgs(answers, outs(out(0, ack(5, 1)))) {
		t.Errorf("%d records, %v", len(recs), answers)
	}
	more, answers := r.Take(0, ship(5, 2, 0, []relay.Entry{x}))
	if len(more) != 1 || !sameMsgs(answers, outs(out(0, ack(5, 2)))) {
		t.Errorf("%d records, %v", len(more), answers)
	}
	if again, e := relay.Load(1, append(recs, more...)); e != api.OK || tell(again) != tell(r) {
		t.Errorf("Load: error %d", e)
	}
	// A longer one is none: it isn't entered.
	x.Cmd = append(x.Cmd, 'a')
	take(t, r, 0, ship(5, 3, 0, []relay.Entry{x}), outs(out(0, ack(5, 2))))
	if r.Len() != 2 {
		t.Errorf("%d entries", r.Len())
	}
}

// joined is a relay of node 1 that follows node 0 in the epoch 5.
func joined(t *testing.T, l ...relay.Entry) *relay.Relay {
	t.Helper()
	r := make1(t, 1)
	v := viewOf(5, 0, 0, 1, 3)
	take(t, r, 0, offer(v, 0, l), outs(out(0, ack(5, len(l)))), recPromise(v), recList(5, l...))
	return r
}

func TestP16_1TakeShip(t *testing.T) {
	r := joined(t)
	v := r.View()
	take(t, r, 0, ship(5, 1, 0, of(5, "a")), outs(out(0, ack(5, 1))), recEntry(1, 5, "a"))
	wantState(t, r, v, false, 0, of(5, "a"))
	take(t, r, 0, ship(5, 2, 1, of(5, "b")), outs(out(0, ack(5, 2))), recEntry(2, 5, "b"))
	wantState(t, r, v, false, 1, of(5, "a", "b"))
	take(t, r, 0, ship(5, 3, 9, of(4, "")), outs(out(0, ack(5, 3))), recEntry(3, 4, ""))
	l := append(of(5, "a", "b"), of(4, "")...)
	wantState(t, r, v, false, 3, l)
	// What isn't the next entry isn't entered, but heard and acked.
	for _, m := range []relay.Msg{
		ship(5, 3, 0, of(5, "x")), ship(5, 1, 0, of(5, "x")), ship(5, 5, 0, of(5, "x")), ship(5, 0, 0, of(5, "x")),
		ship(5, -1, 0, of(5, "x")), ship(5, math.MinInt, 0, of(5, "x")), ship(5, math.MaxInt, 0, of(5, "x")),
		ship(5, 4, 0, nil), ship(5, 4, 0, of(5, "x", "y")), ship(5, 3, 0, nil),
	} {
		take(t, r, 0, m, outs(out(0, ack(5, 3))))
		wantState(t, r, v, false, 3, l)
	}
	// A Ship's view is nothing.
	m := ship(5, 4, 0, of(5, "c"))
	m.View = viewOf(9, 3, 3)
	take(t, r, 0, m, outs(out(0, ack(5, 4))), recEntry(4, 5, "c"))
	wantState(t, r, v, false, 3, append(l, of(5, "c")...))
}

func TestP16_1TakeShipHears(t *testing.T) {
	for _, c := range []struct{ sure, want int }{
		{0, 0}, {1, 1}, {2, 2}, {3, 2}, {math.MaxInt, 2}, {-1, 0}, {math.MinInt, 0},
	} {
		r := joined(t, of(5, "a", "b")...)
		take(t, r, 0, ship(5, 2, c.sure, nil), outs(out(0, ack(5, 2))))
		wantState(t, r, r.View(), false, c.want, of(5, "a", "b"))
	}
}

func TestP16_1TakeNoShip(t *testing.T) {
	m := ship(5, 2, 1, of(5, "b"))
	r := joined(t, of(5, "a")...)
	for _, from := range []int{1, 3, 2, -1, 8, math.MinInt} {
		ignore(t, r, from, m)
	}
	for _, epoch := range []int{4, 6, 0, -5, math.MaxInt} {
		ignore(t, r, 0, ship(epoch, 2, 1, of(5, "b")))
	}
	// The view is held, but not joined.
	r = joined(t, of(5, "a")...)
	lead(t, r, viewOf(6, 0, 0, 1))
	ignore(t, r, 0, ship(6, 2, 1, of(6, "b")))
	ignore(t, r, 0, m)
	r = led(t, 1, viewOf(5, 0, 0, 1))
	ignore(t, r, 0, ship(5, 1, 1, of(5, "a")))
	ignore(t, r, 0, ship(0, 1, 1, of(5, "a")))
	// Nobody ships to who leads.
	r = led(t, 1, viewOf(5, 1, 0, 1))
	for _, from := range []int{0, 1} {
		ignore(t, r, from, ship(5, 1, 1, of(5, "a")))
	}
}

func TestP16_1TakeShipToFullLog(t *testing.T) {
	r := joined(t, full(5)[:maxLog-1]...)
	take(t, r, 0, ship(5, maxLog, 0, of(5, "4095")), outs(out(0, ack(5, maxLog))), recEntry(maxLog, 5, "4095"))
	take(t, r, 0, ship(5, maxLog+1, maxLog+1, of(5, "x")), outs(out(0, ack(5, maxLog))))
	wantState(t, r, r.View(), false, maxLog, full(5))
}

// While there is no view, node 0 is taken as its primary, but for itself.
func TestP16_1TakeShipWithoutView(t *testing.T) {
	r := make1(t, 1)
	take(t, r, 0, ship(0, 0, 5, nil), outs(out(0, ack(0, 0))))
	take(t, r, 0, ship(0, 1, 5, of(7, "a")), outs(out(0, ack(0, 1))), recEntry(1, 7, "a"))
	wantState(t, r, view.View{}, false, 1, of(7, "a"))
	if got := r.Save(); !sameRecs(got, recList(0, of(7, "a")...)) {
		t.Errorf("Save: %x", got)
	}
	ignore(t, r, 2, ship(0, 2, 5, of(7, "a")))
	ignore(t, r, 1, ship(0, 2, 5, of(7, "a")))
	ignore(t, r, 0, ship(1, 2, 5, of(7, "a")))
	r = make1(t, 0)
	ignore(t, r, 0, ship(0, 1, 5, of(7, "a")))
	ignore(t, r, 0, ack(0, 0))
	ignore(t, r, 1, ack(0, 0))
}

func TestP16_1TakeAck(t *testing.T) {
	v := viewOf(5, 1, 0, 1, 3)
	r := led(t, 1, v)
	take(t, r, 0, ack(5, 0), nil)
	tick(t, r, out(0, ship(5, 0, 0, nil)), out(3, offer(v, 0, nil)))
	wantState(t, r, v, false, 0, nil)
	take(t, r, 3, ack(5, 0), nil)
	wantState(t, r, v, true, 0, nil)
	propose(t, r, "a", 1, 0)
	propose(t, r, "b", 2, 0)
	propose(t, r, "c", 3, 0)
	l := of(5, "a", "b", "c")
	take(t, r, 0, ack(5, 2), nil)
	wantState(t, r, v, true, 0, l)
	take(t, r, 3, ack(5, 1), nil)
	wantState(t, r, v, true, 1, l)
	take(t, r, 3, ack(5, 3), nil)
	wantState(t, r, v, true, 2, l)
	// One that comes late takes nothing back.
	take(t, r, 0, ack(5, 1), nil)
	take(t, r, 0, ack(5, 0), nil)
	wantState(t, r, v, true, 2, l)
	tick(t, r, out(0, ship(5, 3, 2, of(5, "c"))), out(3, ship(5, 3, 2, nil)))
	take(t, r, 0, ack(5, 3), nil)
	wantState(t, r, v, true, 3, l)
	// Its other fields are nothing.
	propose(t, r, "d", 4, 3)
	take(t, r, 0, relay.Msg{Kind: 3, Epoch: 5, View: viewOf(9, 0, 0), Index: 4, Sure: 9, Log: of(9, "x")}, nil)
	wantState(t, r, v, true, 3, append(l, of(5, "d")...))
	tick(t, r, out(0, ship(5, 4, 3, nil)), out(3, ship(5, 4, 3, of(5, "d"))))
}

func TestP16_1TakeNoAck(t *testing.T) {
	v := viewOf(5, 1, 0, 1, 3)
	r := led(t, 1, v)
	for range 2 {
		for _, from := range []int{1, 2, 4, -1, 8, math.MaxInt} {
			ignore(t, r, from, ack(5, 0))
		}
		for _, m := range []relay.Msg{
			ack(4, 0), ack(6, 0), ack(0, 0), ack(-5, 0), ack(5, -1), ack(5, math.MinInt), ack(5, r.Len()+1), ack(5, math.MaxInt),
		} {
			ignore(t, r, 0, m)
			ignore(t, r, 3, m)
		}
		if r.Active() {
			continue
		}
		take(t, r, 0, ack(5, 0), nil)
		take(t, r, 3, ack(5, 0), nil)
		propose(t, r, "a", 1, 0)
	}
	// Who doesn't lead counts none.
	for _, r := range []*relay.Relay{joined(t, of(5, "a")...), led(t, 2, viewOf(5, 0, 0, 1))} {
		ignore(t, r, 0, ack(5, 0))
		ignore(t, r, 3, ack(5, 1))
	}
}

func TestP16_1TakeOtherKinds(t *testing.T) {
	for _, kind := range []int{0, 4, -1, -2, math.MinInt, math.MaxInt} {
		for _, r := range []*relay.Relay{make1(t, 1), joined(t, of(5, "a")...), led(t, 1, viewOf(4, 1, 0, 1))} {
			for _, m := range []relay.Msg{offer(viewOf(5, 0, 0, 1), 1, of(5, "a")), ship(5, 2, 1, of(5, "b")), ack(4, 0)} {
				m.Kind = kind
				ignore(t, r, 0, m)
			}
		}
	}
}

func TestP16_1NilRelay(t *testing.T) {
	var r *relay.Relay
	v := viewOf(5, 0, 0, 1)
	if recs, e := r.Lead(v); recs != nil || e != api.ErrNil {
		t.Errorf("Lead: %x, error %d", recs, e)
	}
	if recs, e := r.Lead(view.View{}); recs != nil || e != api.ErrNil {
		t.Errorf("Lead: %x, error %d", recs, e)
	}
	for _, m := range []relay.Msg{offer(v, 0, nil), ship(0, 1, 0, of(1, "a")), ack(0, 0), {}} {
		if recs, outs := r.Take(0, m); recs != nil || outs != nil {
			t.Errorf("Take(%v): %x, %v", m, recs, outs)
		}
	}
	if outs := r.Tick(); outs != nil {
		t.Errorf("Tick: %v", outs)
	}
	if recs := r.Save(); recs != nil {
		t.Errorf("Save: %x", recs)
	}
	wantState(t, r, view.View{}, false, 0, nil)
	for _, i := range []int{-1, 0, 1} {
		if x, ok := r.Entry(i); ok || x.Epoch != 0 || x.Cmd != nil || r.Len() != 0 {
			t.Errorf("Entry(%d): %v", i, x)
		}
	}
}

func TestP16_2TickOfWhoDoesNotLead(t *testing.T) {
	for _, r := range []*relay.Relay{make1(t, 0), make1(t, 1), joined(t, of(5, "a")...), led(t, 2, viewOf(5, 0, 0, 1)), led(t, 3, viewOf(5, 3, 3))} {
		tick(t, r)
	}
}

func TestP16_2Offers(t *testing.T) {
	r := led(t, 2, viewOf(3, 2, 2))
	propose(t, r, "a", 1, 1)
	propose(t, r, "b", 2, 2)
	v := viewOf(4, 2, 1, 2, 6)
	lead(t, r, v)
	o := offer(v, 2, of(3, "a", "b"))
	tick(t, r, out(1, o), out(6, o))
	take(t, r, 6, ack(4, 1), nil)
	tick(t, r, out(1, o), out(6, ship(4, 2, 2, of(3, "b"))))
	take(t, r, 1, ack(4, 2), nil)
	take(t, r, 6, ack(4, 2), nil)
	tick(t, r, out(1, ship(4, 2, 2, nil)), out(6, ship(4, 2, 2, nil)))
}

// shipsOf is what a member is sent of n entries of the epoch 1, of which it
// acked some: at most 16 of those that it lacks.
func shipsOf(to, acked, n, sure int) []relay.Out {
	if acked == n {
		return outs(out(to, ship(1, n, sure, nil)))
	}
	var l []relay.Out
	for at := acked + 1; at <= min(acked+maxShips, n); at++ {
		l = append(l, out(to, ship(1, at, sure, of(1, fmt.Sprint(at)))))
	}
	return l
}

func TestP16_2Ships(t *testing.T) {
	r := led(t, 0, viewOf(1, 0, 0, 1, 2))
	take(t, r, 1, ack(1, 0), nil)
	take(t, r, 2, ack(1, 0), nil)
	for n := range 40 {
		tick(t, r, append(shipsOf(1, 0, n, 0), shipsOf(2, 0, n, 0)...)...)
		propose(t, r, fmt.Sprint(n+1), n+1, 0)
	}
	for _, c := range []struct{ first, second int }{{1, 0}, {1, 24}, {23, 25}, {24, 25}, {24, 39}, {40, 39}, {40, 40}} {
		take(t, r, 1, ack(1, c.first), nil)
		take(t, r, 2, ack(1, c.second), nil)
		sure := min(c.first, c.second)
		tick(t, r, append(shipsOf(1, c.first, 40, sure), shipsOf(2, c.second, 40, sure)...)...)
	}
}

func TestP16_3SaveAndLoad(t *testing.T) {
	one := led(t, 0, viewOf(1, 0, 0))
	propose(t, one, "a", 1, 1)
	two := led(t, 0, viewOf(1, 0, 0, 1))
	take(t, two, 1, ack(1, 0), nil)
	propose(t, two, "a", 1, 0)
	propose(t, two, "b", 2, 0)
	take(t, two, 1, ack(1, 1), nil)
	late := joined(t, of(5, "a")...)
	lead(t, late, viewOf(6, 3, 1, 3))
	heard := joined(t, of(5, "a", "b")...)
	take(t, heard, 0, ship(5, 2, 2, nil), outs(out(0, ack(5, 2))))
	for _, c := range []struct {
		id     int
		r      *relay.Relay
		want   [][]byte
		active bool
		sure   int
	}{
		{0, make1(t, 0), nil, false, 0},
		{1, led(t, 1, viewOf(3, 0, 0, 1)), [][]byte{recPromise(viewOf(3, 0, 0, 1))}, false, 0},
		{1, joined(t), [][]byte{recPromise(viewOf(5, 0, 0, 1, 3)), recList(5)}, false, 0},
		{1, late, [][]byte{recPromise(viewOf(6, 3, 1, 3)), recList(5, of(5, "a")...)}, false, 0},
		{1, heard, [][]byte{recPromise(viewOf(5, 0, 0, 1, 3)), recList(5, of(5, "a", "b")...)}, false, 0},
		{0, one, [][]byte{recPromise(viewOf(1, 0, 0)), recList(1, of(1, "a")...)}, true, 1},
		{0, two, [][]byte{recPromise(viewOf(1, 0, 0, 1)), recList(1, of(1, "a", "b")...)}, false, 0},
	} {
		recs := c.r.Save()
		if !sameRecs(recs, c.want...) {
			t.Errorf("Save: %x, want %x", recs, c.want)
		}
		again, e := relay.Load(c.id, recs)
		if e != api.OK {
			t.Errorf("Load of %x: error %d", recs, e)
			continue
		}
		wantState(t, again, c.r.View(), c.active, c.sure, c.r.Log())
		if got := again.Save(); !sameRecs(got, recs...) {
			t.Errorf("Save of what was loaded: %x, want %x", got, recs)
		}
	}
}

// What was acked is asked for anew, but for a primary's own log.
func TestP16_3LoadForgetsAcks(t *testing.T) {
	v := viewOf(1, 0, 0, 1)
	recs := [][]byte{recPromise(v), recEntry(1, 1, "a"), recEntry(2, 1, "b")}
	r, e := relay.Load(0, recs)
	if e != api.OK {
		t.Fatalf("error %d", e)
	}
	tick(t, r, out(1, offer(v, 0, of(1, "a", "b"))))
	refuse(t, r, []byte("c"), api.ErrState)
	take(t, r, 1, ack(1, 1), nil)
	wantState(t, r, v, true, 1, of(1, "a", "b"))
	take(t, r, 1, ack(1, 2), nil)
	wantState(t, r, v, true, 2, of(1, "a", "b"))
	propose(t, r, "c", 3, 2)
}

func TestP16_3LoadOneByOne(t *testing.T) {
	v, w := viewOf(2, 0, 0, 1), viewOf(3, 1, 0, 1)
	recs := [][]byte{
		recEntry(1, -7, "x"), recList(0, of(-9, "y", "z")...), recPromise(viewOf(1, 1, 1)), recList(1, of(1, "a")...), recPromise(v),
		recEntry(2, 2, "b"), recEntry(3, 2, "c"), recPromise(w), recList(3, of(2, "b")...), recEntry(2, 3, "d"), recList(0), recEntry(1, 9, "e"),
	}
	type state struct {
		v      view.View
		l      []relay.Entry
		joined int
	}
	u := viewOf(1, 1, 1)
	states := []state{
		{view.View{}, nil, 0}, {view.View{}, of(-7, "x"), 0}, {view.View{}, of(-9, "y", "z"), 0}, {u, of(-9, "y", "z"), 0},
		{u, of(1, "a"), 1}, {v, of(1, "a"), 2}, {v, append(of(1, "a"), of(2, "b")...), 2}, {v, append(of(1, "a"), of(2, "b", "c")...), 2},
		{w, append(of(1, "a"), of(2, "b", "c")...), 2}, {w, of(2, "b"), 3}, {w, append(of(2, "b"), of(3, "d")...), 3}, {w, nil, 0}, {w, of(9, "e"), 0},
	}
	for i, s := range states {
		r, e := relay.Load(0, recs[:i])
		if e != api.OK {
			t.Fatalf("Load of %d records: error %d", i, e)
		}
		wantState(t, r, s.v, false, 0, s.l)
		var want [][]byte
		if s.v.Epoch > 0 {
			want = append(want, recPromise(s.v))
		}
		if len(s.l) > 0 || s.joined != 0 {
			want = append(want, recList(s.joined, s.l...))
		}
		if got := r.Save(); !sameRecs(got, want...) {
			t.Errorf("Save behind %d records: %x, want %x", i, got, want)
		}
	}
}

// A primary of its own: what it has is committed; what it was ahead of a later
// view isn't.
func TestP16_3LoadSettles(t *testing.T) {
	recs := [][]byte{recPromise(viewOf(1, 0, 0)), recEntry(1, 1, "a"), recEntry(2, 1, "b"), recPromise(viewOf(2, 0, 0)), recPromise(viewOf(3, 0, 0, 1)), recPromise(viewOf(4, 1, 0, 1))}
	for i, want := range []struct {
		active bool
		sure   int
	}{{false, 0}, {true, 0}, {true, 1}, {true, 2}, {true, 2}, {false, 0}, {false, 0}} {
		r, e := relay.Load(0, recs[:i])
		if e != api.OK || r.Active() != want.active || r.Sure() != want.sure {
			t.Errorf("Load of %d records: %t, %d, error %d, want %v", i, r.Active(), r.Sure(), e, want)
		}
	}
}

// An entry is of the view's epoch, also where an earlier one was joined.
func TestP16_3LoadOfEarlierJoined(t *testing.T) {
	recs := [][]byte{recPromise(viewOf(5, 0, 0)), recList(4, of(3, "a")...)}
	r, e := relay.Load(0, recs)
	if e != api.OK || !sameRecs(r.Save(), recs...) {
		t.Fatalf("error %d", e)
	}
	wantState(t, r, viewOf(5, 0, 0), true, 1, of(3, "a"))
	propose(t, r, "b", 2, 2)
}

func TestP16_3Tells(t *testing.T) {
	r := joined(t, of(5, "a", "b", "c")...)
	for i, x := range of(5, "a", "b", "c") {
		if got, ok := r.Entry(i); !ok || !reflect.DeepEqual(got, x) {
			t.Errorf("Entry(%d): %v, %t", i, got, ok)
		}
	}
	for _, i := range []int{-1, 3, 4, math.MinInt, math.MaxInt} {
		if got, ok := r.Entry(i); ok || got.Epoch != 0 || got.Cmd != nil {
			t.Errorf("Entry(%d): %v, %t", i, got, ok)
		}
	}
	if r.Len() != 3 || len(r.Log()) != 3 {
		t.Errorf("%d, %d", r.Len(), len(r.Log()))
	}
}

// spoil writes over a list of bytes and the room behind its end.
func spoil(b []byte) {
	b = b[:cap(b)]
	for i := range b {
		b[i] = 0xee
	}
}

func spoilLog(l []relay.Entry) {
	l = l[:cap(l)]
	for i := range l {
		spoil(l[i].Cmd)
		l[i] = relay.Entry{Epoch: -1}
	}
}

func spoilView(v view.View) {
	l := v.Members[:cap(v.Members)]
	for i := range l {
		l[i] = 99
	}
}

func spoilMsg(m relay.Msg) {
	spoilView(m.View)
	spoilLog(m.Log)
}

// spoilAll writes over answers one by one; no other one may change by it.
func spoilAll(t *testing.T, recs [][]byte, l []relay.Out) {
	t.Helper()
	for i := range recs {
		rest := fmt.Sprintf("%x %+v", recs[i+1:], l)
		spoil(recs[i])
		if got := fmt.Sprintf("%x %+v", recs[i+1:], l); got != rest {
			t.Errorf("the record %d written over: %s, was %s", i, got, rest)
		}
	}
	for i := range l {
		rest := fmt.Sprintf("%+v", l[i+1:])
		for j := range l[i].Msg.Log {
			others := fmt.Sprintf("%+v", l[i].Msg.Log[j+1:])
			spoil(l[i].Msg.Log[j].Cmd)
			if got := fmt.Sprintf("%+v", l[i].Msg.Log[j+1:]); got != others {
				t.Errorf("the entry %d of message %d written over: %s, was %s", j, i, got, others)
			}
		}
		spoilMsg(l[i].Msg)
		if got := fmt.Sprintf("%+v", l[i+1:]); got != rest {
			t.Errorf("message %d written over: %s, was %s", i, got, rest)
		}
	}
}

// roomy is a list with room behind its end.
func roomy[T any](l []T) []T { return slices.Grow(slices.Clone(l), 3) }

func TestR3RelaysShareNothing(t *testing.T) {
	v := viewOf(5, 0, 0, 1, 3)
	r, f := make1(t, 0), make1(t, 1)
	same := func(what, was string, r *relay.Relay) {
		t.Helper()
		if is := tell(r); is != was {
			t.Errorf("%s: is %s, was %s", what, is, was)
		}
	}

	handed := v
	handed.Members = roomy(v.Members)
	recs, _ := r.Lead(handed)
	was := tell(r)
	spoilView(handed)
	spoilAll(t, recs, nil)
	same("Lead", was, r)

	m := offer(v, 0, roomy(of(4, "ab", "cd")))
	m.View.Members = roomy(v.Members)
	for i := range m.Log {
		m.Log[i].Cmd = roomy(m.Log[i].Cmd)
	}
	recs, answers := f.Take(0, m)
	was = tell(f)
	spoilMsg(m)
	spoilAll(t, recs, answers)
	same("an Offer", was, f)

	m = ship(5, 3, 0, roomy(of(5, "ef")))
	m.Log[0].Cmd = roomy(m.Log[0].Cmd)
	recs, answers = f.Take(0, m)
	was = tell(f)
	spoilMsg(m)
	spoilAll(t, recs, answers)
	same("a Ship", was, f)
	if f.Len() != 3 {
		t.Errorf("%d entries", f.Len())
	}

	r.Take(1, ack(5, 0))
	r.Take(3, ack(5, 0))
	cmd := roomy([]byte("gh"))
	_, recs, ships, _ := r.Propose(cmd)
	was = tell(r)
	spoil(cmd)
	spoilAll(t, recs, ships)
	same("Propose", was, r)
	r.Propose([]byte("ij"))

	r.Lead(viewOf(6, 0, 0, 1, 2, 3))
	r.Take(3, ack(6, 0))
	was = tell(r)
	spoilAll(t, r.Save(), r.Tick())
	spoilView(r.View())
	spoilLog(r.Log())
	x, _ := r.Entry(0)
	spoil(x.Cmd)
	same("what it tells", was, r)

	recs = f.Save()
	for i := range recs {
		recs[i] = roomy(recs[i])
	}
	again, e := relay.Load(1, recs)
	if e != api.OK {
		t.Fatalf("Load: error %d", e)
	}
	was = tell(again)
	spoilAll(t, recs, nil)
	same("Load", was, again)
}

// What is handed in isn't changed, nor is the room behind its end.
func TestR3HandedInStays(t *testing.T) {
	r := make1(t, 1)
	base := full(1)[:8]
	l := base[:2]
	members := []int{0, 1, 3, 4, 5}
	r.Take(0, offer(viewOf(5, 0, members[:2]...), 0, l))
	r.Take(0, ship(5, 3, 0, base[2:3]))
	r.Lead(viewOf(6, 1, members[:3]...))
	r.Take(0, ack(6, 0))
	r.Take(3, ack(6, 0))
	cmd := []byte("abcd")
	r.Propose(cmd[:2])
	r.Tick()
	if !reflect.DeepEqual(base, full(1)[:8]) || !slices.Equal(members, []int{0, 1, 3, 4, 5}) || string(cmd) != "abcd" {
		t.Errorf("%v, %v, %s", base, members, cmd)
	}
}
