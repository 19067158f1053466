package tide_test

import (
	"bytes"
	"fmt"
	"math"
	"slices"
	"testing"

	"slackwater/api"
	"slackwater/ask"
	"slackwater/cell"
	"slackwater/label"
	"slackwater/match"
	"slackwater/node"
	"slackwater/stamp"
	"slackwater/tide"
)

// Tests of P18.5 to P18.7: scripts in which messages are lost, come late, in any
// order and more than once, clocks tell anything, power goes at any step of the
// disks, disks are full, and views change; what was answered is held against the
// batches that are done.

// weather says how often things go wrong: once in so many times. A node that
// doesn't run starts once in so many times, too.
type weather struct{ lost, twice, crash, fuse, change, wild, start int }

// never is how often nothing goes wrong.
var never = weather{1 << 40, 1 << 40, 1 << 40, 1 << 40, 1 << 40, 1 << 40, 1}

// someWeather is any, but that clocks are wild so often.
func someWeather(d *dice, wild int) weather {
	return weather{lost: 6 + d.below(40), twice: 3 + d.below(20), crash: 60 + d.below(400), fuse: 60 + d.below(300), change: 20 + d.below(200), wild: wild, start: oneOf(d, 1, 4, 20, 60)}
}

// asked is an Ask that was answered.
type asked struct {
	q    ask.Query
	at   api.Stamp
	told string
}

// script is a tide, and what was asked of it and told by it.
type script struct {
	t    *testing.T
	d    *dice
	x    *tide.Tide
	c    node.Config
	w    weather
	now  int64
	skew []int64

	given  map[string][][]api.Write // by tokens: all that was submitted
	told   map[string]cell.Reply    // by tokens: the fates that are decided
	asked  []asked
	agreed [][][]byte // by shards: all that was ever sure
	counts struct{ again, refused, crashes, dead, wild, tooOld int }
}

func newScript(t *testing.T, d *dice, c node.Config, w weather, room int) *script {
	t.Helper()
	x := &script{t: t, d: d, x: newTide(t, c, room), c: c, w: w, now: 10, given: map[string][][]api.Write{}, told: map[string]cell.Reply{}, agreed: make([][][]byte, c.Shards)}
	for range c.Nodes {
		x.skew = append(x.skew, int64(d.below(30)))
	}
	for s := range c.Shards {
		x.x.Announce(s)
	}
	return x
}

// phys is the reading of a node's clock; a wild one is any number.
func (x *script) phys(n int) int64 {
	if n < 0 || n >= x.c.Nodes {
		return x.now
	}
	if x.d.in(x.w.wild) {
		x.counts.wild++
		return oneOf(x.d, 0, -1, math.MinInt64, math.MaxInt64, maxWall, maxWall+1, maxWall-5, x.now+1<<41, x.now+500, x.now/2)
	}
	return x.now + x.skew[n]
}

// look notes what is sure with a node; nobody may have anything else.
func (x *script) look(n int) {
	x.t.Helper()
	for s := range x.c.Shards {
		known := x.agreed[s]
		if x.x.State(n, s).Sure <= len(known) && !x.d.in(40) {
			continue
		}
		l := x.x.Sure(n, s)
		both := min(len(l), len(known))
		if !slices.EqualFunc(l[:both], known[:both], bytes.Equal) {
			x.t.Fatalf("of the shard %d %d has %x, but sure is %x", s, n, l, known)
		}
		if len(l) > len(known) {
			x.agreed[s] = l
		}
	}
}

// learn holds that what a client was told of a batch stays.
func (x *script) learn() {
	x.t.Helper()
	for token := range x.given {
		r, ok := x.x.Fate(token)
		was, isDecided := x.told[token]
		if isDecided && (r != was || !ok) {
			x.t.Fatalf("P18.7: the fate of %q is %+v, %v, was %+v", token, r, ok, was)
		}
		if r.State == done || r.State == dropped {
			x.told[token] = r
		}
	}
}

// step lets one thing happen.
func (x *script) step() {
	x.t.Helper()
	n := x.d.below(x.c.Nodes)
	x.now += int64(x.d.below(3))
	switch {
	case x.d.in(x.w.change):
		x.change()
	case !x.x.Up(n):
		if x.d.in(x.w.start) {
			x.x.Start(n)
		}
	case x.d.in(x.w.crash):
		x.crash(n)
	case x.d.in(x.w.fuse):
		x.x.Fuse(n, x.d.below(12))
	case x.d.in(9):
		x.submit(fmt.Sprint(x.d.below(20)))
	case x.d.in(40):
		x.order()
	case x.d.in(4):
		x.tick(n)
	case x.d.in(5):
		x.ask(n)
	default:
		x.deliver()
	}
	x.look(n)
	for x.x.Len() > 80 {
		x.x.Lose(0)
	}
}

// dies lets a node crash whose disk failed.
func (x *script) dies(n int, e api.Errno) {
	if e == api.ErrDown || e == api.ErrFull {
		x.counts.dead++
		x.crash(n)
	}
}

func (x *script) tick(n int) { x.dies(n, x.x.Tick(n, x.phys(n))) }

func (x *script) crash(n int) {
	x.t.Helper()
	var keep []int
	for range 3 {
		keep = append(keep, oneOf(x.d, 0, 0, x.d.below(60), 1<<26))
	}
	if e := x.x.Crash(n, keep); e == api.OK {
		x.counts.crashes++
	} else if e != api.ErrState {
		x.t.Fatalf("Crash: error %d", e)
	}
}

// deliver lets a message arrive, or be lost, or be there once more. Whom it was
// for isn't told: all nodes are looked at.
func (x *script) deliver() {
	x.t.Helper()
	if x.x.Len() == 0 {
		return
	}
	i := x.d.below(min(x.x.Len(), 12))
	switch {
	case x.d.in(x.w.lost):
		x.x.Lose(i)
		return
	case x.d.in(x.w.twice):
		x.x.Twice(i)
	}
	if e := x.x.Deliver(i, x.phys(x.d.below(x.c.Nodes))); e == api.ErrDown || e == api.ErrFull {
		for n := range x.c.Nodes {
			if _, e := x.x.Ask(n, ask.Query{}, at(0, 0, 0)); e == api.ErrDown || e == api.ErrFull {
				x.dies(n, e)
			}
		}
	}
	for n := range x.c.Nodes {
		x.look(n)
	}
	x.learn()
}

// change picks a view, of a primary that may not be safe.
func (x *script) change() {
	s := x.d.below(x.c.Shards)
	if x.d.in(3) {
		x.x.Announce(s)
		return
	}
	var l []int
	for n := range x.c.Nodes {
		if !x.d.in(3) {
			l = append(l, n)
		}
	}
	if e := x.x.Change(s, x.d.below(x.c.Nodes), l); e == api.ErrView {
		x.counts.refused++
	}
}

// submit asks for a batch; now and then it is another one with the token.
func (x *script) submit(token string) {
	l := x.given[token]
	if len(l) == 0 || x.d.in(12) {
		l = append(l, x.batch(token))
		x.given[token] = l
	}
	x.x.Submit(token, oneOf(x.d, l...))
}

func (x *script) batch(token string) []api.Write {
	var l []api.Write
	for i := range 1 + x.d.below(5) {
		w := api.Write{Set: []api.Pair{{Name: "a", Value: fmt.Sprint(x.d.below(6))}}, Time: int64(4*i + x.d.below(4)), Kind: oneOf(x.d, api.Sample, api.Sample, api.Note, api.Gone)}
		switch w.Kind {
		case api.Sample:
			w.Num = int64(x.d.below(1000))
		case api.Note:
			w.Text = token
		}
		l = append(l, w)
	}
	return l
}

func (x *script) order() {
	wall := max(0, x.now-int64(x.d.below(60)))
	x.x.Order(x.d.below(x.c.Shards), oneOf(x.d,
		cell.Cmd{Kind: cut, At: at(wall, 0, 0)},
		cell.Cmd{Kind: retain, N: int64(x.d.below(1 + x.d.below(6)))},
		cell.Cmd{Kind: pin, Id: x.d.below(3), At: at(wall, 0, 0), N: int64(1 + x.d.below(20))}))
}

// query is any one that is right.
func (x *script) query() ask.Query {
	from := int64(oneOf(x.d, 0, x.d.below(8), 6))
	q := ask.Query{Op: oneOf(x.d, 0, 0, 0, 1+x.d.below(5)), From: from, To: from + int64(oneOf(x.d, 30, x.d.below(20))), Notes: x.d.in(2)}
	if q.Op != ask.Points {
		q.Step = int64(1 + x.d.below(9))
	}
	if x.d.in(4) {
		q.Rules = []match.Rule{{Name: "a", Op: 1 + x.d.below(4), Value: fmt.Sprint(x.d.below(6))}}
	}
	return q
}

// ask asks a node about a stamp near what it has closed, or where a batch was
// told to be done.
func (x *script) ask(n int) {
	var c api.Stamp
	for s := range x.c.Shards {
		if is := x.x.State(n, s).Closed; s == 0 || stamp.Compare(is, c) < 0 {
			c = is
		}
	}
	c.Wall = max(0, c.Wall-int64(oneOf(x.d, 0, 0, x.d.below(20))))
	c.Tick, c.Mark = oneOf(x.d, c.Tick, 0, 1, maxTick), oneOf(x.d, c.Mark, 0, 1, 2, maxTick)
	if r, ok := x.told[fmt.Sprint(x.d.below(20))]; ok && r.State == done && x.d.in(3) {
		c = r.At
		c.Mark -= uint32(x.d.below(2))
	}
	q := x.query()
	switch a, e := x.x.Ask(n, q, c); e {
	case api.OK:
		x.asked = append(x.asked, asked{q, c, fmt.Sprint(a)})
	case api.ErrTooOld:
		x.counts.tooOld++
	}
	if len(x.asked) > 0 && x.d.in(2) {
		x.again(oneOf(x.d, x.asked...))
	}
}

// again asks all nodes what was answered: they tell the same, or why not.
func (x *script) again(a asked) {
	x.t.Helper()
	for n := range x.c.Nodes {
		got, e := x.x.Ask(n, a.q, a.at)
		if e == api.OK && fmt.Sprint(got) != a.told {
			x.t.Fatalf("P18.6: %+v at %v was told %s, %d tells %v", a.q, a.at, a.told, n, got)
		}
		if e == api.OK {
			x.counts.again++
		}
	}
}

// round lets all that is on its way arrive, and all nodes tick.
func (x *script) round() {
	x.t.Helper()
	for range x.x.Len() {
		x.x.Deliver(0, x.now)
	}
	for n := range x.c.Nodes {
		x.x.Tick(n, x.now)
		x.look(n)
	}
	x.learn()
	x.now++
}

// calm lets all go well, till nothing is left to do, and says whether that came.
func (x *script) calm() bool {
	x.t.Helper()
	x.w = never
	longest := 0
	for n := range x.c.Nodes {
		x.x.Crash(n, nil)
		x.x.Start(n)
		x.skew[n] = 0
		for s := range x.c.Shards {
			longest = max(longest, x.x.State(n, s).Len)
		}
	}
	for x.x.Len() > 0 {
		x.x.Lose(0)
	}
	for s := range x.c.Shards {
		x.x.Announce(s)
	}
	for range 60 + 2*x.c.Patience + longest {
		if x.round(); x.isQuiet() {
			return true
		}
	}
	return false
}

// isQuiet says whether each shard's members have its view and its log, and
// nothing is left to be driven.
func (x *script) isQuiet() bool {
	for s := range x.c.Shards {
		v := x.x.View(s)
		if !x.x.State(v.Primary, s).Active {
			return false
		}
		for _, n := range v.Members {
			if is := x.x.State(n, s); is.View.Epoch != v.Epoch || is.Held > 0 || is.Open > 0 {
				return false
			}
		}
	}
	return true
}

// books is all batches that were begun, as the sure commands tell it.
func (x *script) books() []cell.Item {
	x.t.Helper()
	var l []cell.Item
	tokens := map[string]bool{}
	for s, a := range x.agreed {
		c, _ := cell.New(s)
		for _, b := range a {
			m, e := cell.Decode(b)
			if e != api.OK {
				x.t.Fatalf("%x is sure: error %d", b, e)
			}
			c.Do(m)
		}
		for _, it := range c.Book() {
			if tokens[it.Token] || node.Home(it.Token, x.c.Shards) != s {
				x.t.Fatalf("P18.7: %q is in the book of %d, too", it.Token, s)
			}
			tokens[it.Token] = true
			l = append(l, it)
		}
	}
	return l
}

// points is what stands at a stamp, as the batches that are done tell.
func points(books []cell.Item, at api.Stamp) []api.Point {
	last := map[string]api.Point{}
	for _, it := range books {
		if it.State != done || stamp.Compare(it.At, at) > 0 {
			continue
		}
		for _, w := range it.Writes {
			k := fmt.Sprint(w.Set, w.Time)
			if p, ok := last[k]; !ok || stamp.Compare(p.At, it.At) < 0 {
				last[k] = api.Point{Set: w.Set, Time: w.Time, Kind: w.Kind, Num: w.Num, Text: w.Text, At: it.At}
			}
		}
	}
	var l []api.Point
	for _, p := range last {
		if p.Kind != api.Gone {
			l = append(l, p)
		}
	}
	slices.SortFunc(l, func(a, b api.Point) int {
		if c := label.Compare(a.Set, b.Set); c != 0 {
			return c
		}
		return int(a.Time - b.Time)
	})
	return l
}

// wantWhole holds all that was told against the batches that are done.
func (x *script) wantWhole() {
	x.t.Helper()
	books := x.books()
	stamps := map[api.Stamp]string{}
	for _, it := range books {
		isGiven := func(l []api.Write) bool { return fmt.Sprint(l) == fmt.Sprint(it.Writes) }
		if !slices.ContainsFunc(x.given[it.Token], isGiven) {
			x.t.Fatalf("P18.5: nobody asked for %v with %q", it.Writes, it.Token)
		}
		if other, ok := stamps[it.At]; ok && it.State == done {
			x.t.Fatalf("P18.5: %q and %q are done at %v", other, it.Token, it.At)
		}
		if it.State == done {
			stamps[it.At] = it.Token
		}
	}
	for token, r := range x.told {
		i := slices.IndexFunc(books, func(it cell.Item) bool { return it.Token == token })
		if i < 0 || books[i].State != r.State || books[i].At != r.At || books[i].Deed != r.Deed || r.Err != api.OK {
			x.t.Fatalf("P18.5: of %q %+v was told", token, r)
		}
	}
	for _, a := range x.asked {
		want, e := ask.Run(a.q, points(books, a.at))
		if e != api.OK || fmt.Sprint(want) != a.told {
			x.t.Fatalf("P18.5: %+v at %v was told %s, want %v", a.q, a.at, a.told, want)
		}
		x.again(a)
	}
}

// wantDone holds that a new batch is done when all goes well, and is told.
func (x *script) wantDone() {
	x.t.Helper()
	x.now += 400000
	for range 60 {
		x.submit("new")
		x.round()
	}
	r := x.told["new"]
	if r.State != done {
		x.t.Fatalf("the new batch: %+v", r)
	}
	for range 5 {
		x.round()
	}
	members := x.x.View(0).Members
	for s := range x.c.Shards {
		members = slices.DeleteFunc(members, func(n int) bool { return !slices.Contains(x.x.View(s).Members, n) })
	}
	for _, n := range members {
		q := ask.Query{From: 10, To: 40, Notes: true}
		a, e := x.x.Ask(n, q, r.At)
		if e != api.OK {
			x.t.Fatalf("%d tells error %d", n, e)
		}
		x.asked = append(x.asked, asked{q, r.At, fmt.Sprint(a)})
	}
}

func TestP18_5Whole(t *testing.T) {
	var decided, doneOnes, answers, again, refused, crashes, dead, tooOld int
	for seed := range 60 {
		d := dice(seed)
		c := node.Config{Nodes: 1 + seed%5, Shards: 1 + d.below(4), Offset: int64(oneOf(&d, 10, 3000, 1<<30)), Patience: 5 + d.below(12)}
		x := newScript(t, &d, c, someWeather(&d, 1<<40), 1<<24)
		for range 2500 {
			x.step()
		}
		if !x.calm() {
			t.Fatalf("seed %d: it isn't quiet", seed)
		}
		x.wantWhole()
		x.wantDone()
		x.wantWhole()
		for _, it := range x.books() {
			decided++
			if it.State == done {
				doneOnes++
			}
		}
		answers += len(x.asked)
		again += x.counts.again
		refused += x.counts.refused
		crashes += x.counts.crashes
		dead += x.counts.dead
		tooOld += x.counts.tooOld
	}
	// What never happens isn't held.
	if decided < 800 || doneOnes < 400 || answers < 4000 || again < 20000 || refused < 100 || crashes < 1000 || dead < 400 || tooOld < 300 {
		t.Errorf("%d decided, %d done, %d answers, %d again, %d refused, %d crashes, %d dead, %d too old", decided, doneOnes, answers, again, refused, crashes, dead, tooOld)
	}
}

// Whatever clocks tell, and however small the disks are, what is told is right:
// but it needn't come to an end.
func TestP18_5Wild(t *testing.T) {
	var doneOnes, answers, again, wild, dead int
	for seed := range 60 {
		d := dice(1000 + seed)
		c := node.Config{Nodes: 1 + seed%5, Shards: 1 + d.below(4), Offset: int64(oneOf(&d, 0, 10, 3000, maxOffset)), Patience: 4 + d.below(12)}
		room := oneOf(&d, 1<<12, 1<<14, 1<<16, 1<<24)
		x := newScript(t, &d, c, someWeather(&d, oneOf(&d, 20, 200, 2000)), room)
		for range 1500 {
			x.step()
		}
		x.calm()
		x.wantWhole()
		for _, it := range x.books() {
			if it.State == done {
				doneOnes++
			}
		}
		answers += len(x.asked)
		again += x.counts.again
		wild += x.counts.wild
		dead += x.counts.dead
	}
	if doneOnes < 200 || answers < 2000 || again < 3000 || wild < 500 || dead < 500 {
		t.Errorf("%d done, %d answers, %d again, %d wild, %d dead", doneOnes, answers, again, wild, dead)
	}
}

// A batch of which a shard has no room for a part is dropped, and nothing of it
// is told.
func TestP18_5FullShard(t *testing.T) {
	x := led(t, conf(1, 2))
	full := sample(1, 2, 4, 7)
	for i := range 1024 {
		want(t, "Submit", x.Submit(tokenOf(0, 2, i), full), api.OK)
	}
	flow(t, x, 20)
	phys := rounds(t, x, 3, 20)
	if is := x.State(0, 0); is.Open != 0 {
		t.Fatalf("%+v", is)
	}
	token, l := tokenOf(1, 2, 0), append(sample(0, 2, 4, 5), sample(1, 2, 5, 6)...)
	r, phys := settle(t, x, token, l, phys)
	if r != (cell.Reply{Deed: 2, State: dropped}) {
		t.Fatalf("%+v", r)
	}
	rounds(t, x, 3, phys)
	if a, e := x.Ask(0, ask.Query{To: 9}, at(phys, 0, 0)); e != api.OK || fmt.Sprint(a) != fmt.Sprintf("{[{%v [{4 7}]}] []}", full[0].Set) {
		t.Errorf("%v, error %d", a, e)
	}
}

// One script is answered alike each time.
func TestP18_5Alike(t *testing.T) {
	for seed := range 12 {
		tells := func() string {
			d := dice(7000 + seed)
			c := node.Config{Nodes: 3, Shards: 1 + d.below(4), Offset: 100, Patience: 6}
			x := newScript(t, &d, c, someWeather(&d, 1000), 1<<20)
			for range 800 {
				x.step()
			}
			return fmt.Sprintf("%s %+v %v %x", tell(x.x), x.asked, x.told, x.agreed)
		}
		if a, b := tells(), tells(); a != b {
			t.Errorf("is %s, was %s", b, a)
		}
	}
}
