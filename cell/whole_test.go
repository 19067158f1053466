package cell_test

import (
	"fmt"
	"maps"
	"math"
	"reflect"
	"slices"
	"strconv"
	"testing"

	"slackwater/api"
	"slackwater/ask"
	"slackwater/cell"
	"slackwater/label"
	"slackwater/match"
)

// Tests of P14.4 to P14.6, and of the rules that hold everywhere: cells by
// random commands, held against a model that keeps all that was ever laid down,
// as it came.

// dice throws the same numbers in each run.
type dice uint64

func (d *dice) next() uint64 {
	*d = *d*6364136223846793005 + 1442695040888963407
	x := uint64(*d)
	return x ^ x>>29
}

func (d *dice) below(n int) int { return int(d.next() >> 8 % uint64(n)) }

// of is one of these.
func of[T any](d *dice, l ...T) T { return l[d.below(len(l))] }

// compare is the order of stamps, part by part.
func compare(a, b api.Stamp) int {
	return slices.Compare([]int64{a.Wall, int64(a.Tick), int64(a.Mark)}, []int64{b.Wall, int64(b.Tick), int64(b.Mark)})
}

func isBehind(a, b api.Stamp) bool { return compare(a, b) > 0 }

func isRight(s api.Stamp) bool { return s.Wall >= 0 && s.Wall <= 1<<62 }

// version is a write that was laid down.
type version struct {
	w  api.Write
	at api.Stamp
}

// model is a cell that throws nothing away.
type model struct {
	id             int
	book           []cell.Item
	parts          map[uint32]cell.Item
	laid           []version
	closed, safe   api.Stamp
	horizon, ticks int64
	pins           map[int]api.Stamp
	until          map[int]int64
}

func newModel(id int) *model {
	return &model{id: id, parts: map[uint32]cell.Item{}, pins: map[int]api.Stamp{}, until: map[int]int64{}}
}

func replyOf(it cell.Item) cell.Reply {
	return cell.Reply{Deed: it.Deed, State: it.State, At: it.At}
}

// errorOf is what a command is refused with.
func (o *model) errorOf(m cell.Cmd) api.Errno {
	switch m.Kind {
	case begin:
		return o.beginError(m)
	case decide:
		i := slices.IndexFunc(o.book, func(it cell.Item) bool { return it.Deed == m.Deed })
		if i < 0 {
			return api.ErrNone
		}
		return errIf(o.book[i].State == open && m.Yes && !(isRight(m.At) && m.At.Mark == m.Deed), api.ErrArg)
	case prepare:
		return o.prepareError(m)
	case resolve:
		return o.resolveError(m)
	case closes:
		return errIf(!isRight(m.At), api.ErrArg)
	case cuts:
		return o.cutError(m)
	case retain:
		return errIf(m.N < 0 || m.N > maxTime, api.ErrArg)
	case pins:
		return o.pinError(m)
	case tick:
		return api.OK
	}
	return api.ErrArg
}

func errIf(is bool, e api.Errno) api.Errno {
	if is {
		return e
	}
	return api.OK
}

func (o *model) beginError(m cell.Cmd) api.Errno {
	if !cell.IsToken(m.Token) || !cell.RightBatch(m.Writes) {
		return api.ErrArg
	}
	known, other := false, false
	for _, it := range o.book {
		if it.Token == m.Token {
			known, other = true, !sameWrites(it.Writes, m.Writes)
		}
	}
	if other {
		return api.ErrToken
	}
	return errIf(!known && len(o.book) == maxDeeds, api.ErrFull)
}

func (o *model) prepareError(m cell.Cmd) api.Errno {
	if _, known := o.parts[m.Deed]; known {
		return api.OK
	}
	if m.Deed == 0 || !cell.RightBatch(m.Writes) || !isRight(m.At) {
		return api.ErrArg
	}
	if len(o.parts) == maxDeeds {
		return api.ErrFull
	}
	return errIf(o.closed.Wall == 1<<62 && o.closed.Tick == math.MaxUint32, api.ErrOver)
}

func (o *model) resolveError(m cell.Cmd) api.Errno {
	it, known := o.parts[m.Deed]
	if known && it.State != open {
		return api.OK
	}
	if m.Deed == 0 {
		return api.ErrArg
	}
	if !known && m.Yes {
		return api.ErrNone
	}
	if !known && len(o.parts) == maxDeeds {
		return api.ErrFull
	}
	return errIf(m.Yes && (!isRight(m.At) || m.At.Mark != m.Deed || isBehind(it.At, m.At)), api.ErrArg)
}

func (o *model) cutError(m cell.Cmd) api.Errno {
	if !isRight(m.At) {
		return api.ErrArg
	}
	if !isBehind(m.At, o.safe) {
		return api.OK
	}
	if isBehind(m.At, o.closed) {
		return api.ErrWait
	}
	for _, it := range o.parts {
		if it.State == open && !isBehind(it.At, m.At) {
			return api.ErrPending
		}
	}
	for _, at := range o.pins {
		if isBehind(m.At, at) {
			return api.ErrState
		}
	}
	return api.OK
}

func (o *model) pinError(m cell.Cmd) api.Errno {
	if m.Id < 0 || m.Id >= maxPins || !isRight(m.At) || m.N < 1 || m.N > maxLease {
		return api.ErrArg
	}
	if isBehind(o.safe, m.At) {
		return api.ErrTooOld
	}
	at, known := o.pins[m.Id]
	return errIf(known && at != m.At, api.ErrTwice)
}

// do is what a command is answered.
func (o *model) do(m cell.Cmd) cell.Reply {
	if e := o.errorOf(m); e != api.OK {
		return cell.Reply{Err: e}
	}
	switch m.Kind {
	case begin:
		return o.begin(m)
	case decide:
		return o.decide(m)
	case prepare:
		return o.prepare(m)
	case resolve:
		return o.resolve(m)
	case closes:
		if all := (api.Stamp{Wall: m.At.Wall, Tick: m.At.Tick, Mark: math.MaxUint32}); isBehind(all, o.closed) {
			o.closed = all
		}
		return cell.Reply{At: o.closed}
	case cuts:
		if isBehind(m.At, o.safe) {
			o.safe = m.At
		}
		return cell.Reply{At: o.safe}
	case retain:
		o.horizon = max(o.horizon, m.N)
	case pins:
		o.pins[m.Id] = m.At
		o.until[m.Id] = max(o.until[m.Id], o.ticks+m.N)
		return cell.Reply{At: m.At}
	case tick:
		o.ticks++
		for id, n := range maps.Clone(o.until) {
			if n <= o.ticks {
				delete(o.pins, id)
				delete(o.until, id)
			}
		}
	}
	return cell.Reply{}
}

func (o *model) begin(m cell.Cmd) cell.Reply {
	for _, it := range o.book {
		if it.Token == m.Token {
			return replyOf(it)
		}
	}
	it := cell.Item{Token: m.Token, Deed: uint32(len(o.book)*4 + o.id + 1), State: open, Writes: m.Writes}
	o.book = append(o.book, it)
	return replyOf(it)
}

func (o *model) decide(m cell.Cmd) cell.Reply {
	it := &o.book[(int(m.Deed)-o.id-1)/4]
	switch {
	case it.State == open && m.Yes:
		it.State, it.At = done, m.At
	case it.State == open:
		it.State = dropped
	}
	return replyOf(*it)
}

func (o *model) prepare(m cell.Cmd) cell.Reply {
	if _, known := o.parts[m.Deed]; !known {
		at := api.Stamp{Wall: m.At.Wall, Tick: m.At.Tick}
		if !isBehind(at, o.closed) && o.closed.Tick == math.MaxUint32 {
			at = api.Stamp{Wall: o.closed.Wall + 1}
		} else if !isBehind(at, o.closed) {
			at = api.Stamp{Wall: o.closed.Wall, Tick: o.closed.Tick + 1}
		}
		at.Mark = m.Deed
		o.parts[m.Deed] = cell.Item{Deed: m.Deed, State: open, At: at, Writes: m.Writes}
	}
	return replyOf(o.parts[m.Deed])
}

func (o *model) resolve(m cell.Cmd) cell.Reply {
	it, known := o.parts[m.Deed]
	if known && it.State != open {
		return replyOf(it)
	}
	it.Deed, it.State, it.At = m.Deed, dropped, api.Stamp{}
	if m.Yes {
		it.State, it.At = done, m.At
		for _, w := range it.Writes {
			if w.Time >= o.horizon {
				o.laid = append(o.laid, version{w, m.At})
			}
		}
	}
	o.parts[m.Deed] = it
	return replyOf(it)
}

// read is what stands at a stamp among all that was ever laid down.
func (o *model) read(asked []match.Rule, from, to int64, at api.Stamp) ([]api.Point, api.Errno) {
	switch {
	case !isRight(at) || !match.Right(asked) || from < 0 || to < from:
		return nil, api.ErrArg
	case isBehind(o.safe, at) || from < o.horizon:
		return nil, api.ErrTooOld
	case isBehind(at, o.closed):
		return nil, api.ErrWait
	}
	for _, it := range o.parts {
		if it.State == open && !isBehind(it.At, at) {
			return nil, api.ErrPending
		}
	}
	return o.stands(asked, from, to, at), api.OK
}

func (o *model) stands(asked []match.Rule, from, to int64, at api.Stamp) []api.Point {
	last := map[string]version{}
	for _, v := range o.laid {
		point := label.Text(v.w.Set) + strconv.FormatInt(v.w.Time, 10)
		if before, known := last[point]; !isBehind(v.at, at) && (!known || isBehind(v.at, before.at)) {
			last[point] = v
		}
	}
	var points []api.Point
	for _, v := range last {
		if w := v.w; w.Kind != gone && match.All(asked, w.Set) && w.Time >= from && w.Time < to {
			points = append(points, api.Point{Set: w.Set, Time: w.Time, Kind: w.Kind, Num: w.Num, Text: w.Text, At: v.at})
		}
	}
	slices.SortFunc(points, func(p, q api.Point) int {
		if n := label.Compare(p.Set, q.Set); n != 0 {
			return n
		}
		return int(p.Time - q.Time)
	})
	return points
}

// The dice throw few tokens, deeds, stamps, sets and times, so that they meet
// often.

func (d *dice) stamp() api.Stamp {
	s := api.Stamp{Wall: int64(d.below(12)), Tick: uint32(d.below(3)), Mark: uint32(d.below(12))}
	switch d.below(60) {
	case 0:
		s.Wall = of[int64](d, -1, maxTime+1, math.MinInt64)
	case 1:
		s.Tick = math.MaxUint32
	case 2:
		s.Mark = math.MaxUint32
	}
	return s
}

func (d *dice) batch() []api.Write {
	var l []api.Write
	for range 1 + d.below(3) {
		w := api.Write{Set: set(of(d, "{}", `{a="1"}`, `{a="1",b="2"}`, `{b="2"}`)), Time: int64(d.below(6)), Kind: 1 + d.below(3)}
		switch w.Kind {
		case sample:
			w.Num = int64(d.below(4))
		case note:
			w.Text = of(d, "", "x", "y")
		}
		l = append(l, w)
	}
	if d.below(40) == 0 {
		return l[:0]
	}
	return l
}

func (d *dice) command(o *model) cell.Cmd {
	m := cell.Cmd{Kind: of(d, begin, begin, decide, prepare, prepare, prepare, resolve, resolve, resolve, closes, cuts, retain, pins, pins, tick)}
	m.Deed, m.At, m.Yes = uint32(d.below(24)), d.stamp(), d.below(3) > 0
	m.Token, m.Writes = of(d, "a", "b", "c", "d", "e", ""), d.batch()
	m.N, m.Id = int64(d.below(4)), d.below(4)
	switch m.Kind {
	case begin:
		for _, it := range o.book { // mostly the same batch once more
			if it.Token == m.Token && d.below(4) > 0 {
				m.Writes = it.Writes
			}
		}
	case decide, resolve:
		if it, known := o.parts[m.Deed]; known && d.below(2) == 0 {
			m.At = it.At
		}
		if d.below(4) > 0 {
			m.At.Mark = m.Deed
		}
	case cuts, closes:
		if d.below(3) > 0 {
			m.At.Wall = min(m.At.Wall, o.closed.Wall+1)
		}
	case retain:
		m.N = of(d, -1, 0, 0, 1, 1, 2, o.horizon)
	}
	if d.below(100) == 0 {
		m.Kind = of(d, 0, 10, -1)
	}
	return m
}

// wantModel holds what a cell tells of itself against the model.
func wantModel(t *testing.T, c *cell.Cell, o *model) {
	t.Helper()
	if c.Closed() != o.closed || c.Safe() != o.safe || c.Ticks() != o.ticks {
		t.Fatalf("closed %v, safe %v, ticks %d, want %v, %v, %d", c.Closed(), c.Safe(), c.Ticks(), o.closed, o.safe, o.ticks)
	}
	var held []uint32
	for deed := range uint32(30) {
		it, known := o.parts[deed]
		if r, ok := c.Deed(deed); ok != known || r != replyOf(it) {
			t.Fatalf("Deed(%d): %+v, %v, want %+v, %v", deed, r, ok, replyOf(it), known)
		}
		if it.State == open {
			held = append(held, deed)
		}
	}
	wantHeld(t, c, held...)
	wantBook(t, c, o.book)
}

// question is what a Read asks.
type question struct {
	asked    string
	from, to int64
	at       api.Stamp
}

func (d *dice) question(o *model) question {
	q := question{asked: of(d, "{}", "{}", `{a="1"}`, `{b=""}`, `{a^="1",b!="2"}`), from: int64(d.below(4)), at: d.stamp()}
	q.to = q.from + int64(d.below(7)) - of[int64](d, 0, 0, 0, 0, 1)
	if d.below(3) > 0 {
		q.from, q.to = max(q.from, o.horizon), max(q.to, o.horizon)
	}
	return q
}

// answer is what was told of it.
type answer struct {
	q    question
	told []api.Point
}

func wantAnswered(t *testing.T, c *cell.Cell, o *model, q question) (answer, bool) {
	t.Helper()
	want, wantError := o.read(rules(q.asked), q.from, q.to, q.at)
	l, e := c.Read(rules(q.asked), q.from, q.to, q.at)
	if e != wantError || !samePoints(l, want) {
		t.Fatalf("Read of %+v: %v, error %d, want %v, error %d", q, l, e, want, wantError)
	}
	return answer{q, l}, e == api.OK
}

// history is what was told of a cell so far.
type history struct {
	answers []answer
	// latest is the last stamp that was read at.
	latest api.Stamp
	tokens map[string]uint32
	fates  map[uint32]cell.Reply
	parts  map[uint32]cell.Reply
	closed api.Stamp
	safe   api.Stamp
	ticks  int64
	// horizon is the model's, one command ago.
	horizon int64
}

func newHistory() *history {
	return &history{tokens: map[string]uint32{}, fates: map[uint32]cell.Reply{}, parts: map[uint32]cell.Reply{}}
}

// wantFinal holds P14.4: what was read is read again, or is an error, and
// nothing is laid down at a stamp that was read at.
func (h *history) wantFinal(t *testing.T, c *cell.Cell, m cell.Cmd, r cell.Reply, wasOpen bool) {
	t.Helper()
	if wasOpen && m.Kind == resolve && r.State == done && !isBehind(r.At, h.latest) {
		t.Fatalf("Do(%+v): %+v: a Read was answered at %v", m, r, h.latest)
	}
	for _, a := range h.answers {
		l, e := c.Read(rules(a.q.asked), a.q.from, a.q.to, a.q.at)
		if e != api.OK && e != api.ErrTooOld || e == api.OK && !samePoints(l, a.told) {
			t.Fatalf("Read of %+v behind %+v: %v, error %d; it was %v", a.q, m, l, e, a.told)
		}
	}
}

// wantOnce holds P14.5: a token has one deed, a fate is one, and deeds that
// aren't open change no more.
func (h *history) wantOnce(t *testing.T, c *cell.Cell, m cell.Cmd, r cell.Reply) {
	t.Helper()
	if m.Kind == begin && r.Err == api.OK {
		if deed, known := h.tokens[m.Token]; known && deed != r.Deed {
			t.Fatalf("Do(%+v): %+v, the token's deed was %d", m, r, deed)
		}
		h.tokens[m.Token] = r.Deed
	}
	if (m.Kind == begin || m.Kind == decide) && r.Err == api.OK {
		if fate, known := h.fates[r.Deed]; known && fate != r {
			t.Fatalf("Do(%+v): %+v, it was told %+v", m, r, fate)
		}
		if m.Kind == decide {
			h.fates[r.Deed] = r
		}
	}
	for deed := range uint32(30) {
		now, _ := c.Deed(deed)
		if before := h.parts[deed]; (before.State == done || before.State == dropped) && now != before {
			t.Fatalf("behind %+v: the deed %d is %+v, it was %+v", m, deed, now, before)
		}
		h.parts[deed] = now
	}
}

// wantRising holds P14.6: closed, safe, horizon and ticks never fall, and what
// is pinned is not too old.
func (h *history) wantRising(t *testing.T, c *cell.Cell, o *model) {
	t.Helper()
	if isBehind(h.closed, c.Closed()) || isBehind(h.safe, c.Safe()) || h.ticks > c.Ticks() {
		t.Fatalf("closed %v, safe %v, ticks %d; they were %v, %v, %d", c.Closed(), c.Safe(), c.Ticks(), h.closed, h.safe, h.ticks)
	}
	h.closed, h.safe, h.ticks = c.Closed(), c.Safe(), c.Ticks()
	if h.horizon > 0 {
		wantReadError(t, c, nil, h.horizon-1, maxTime, c.Safe(), api.ErrTooOld)
	}
	h.horizon = o.horizon
	for id, at := range o.pins {
		for _, s := range []api.Stamp{at, {Wall: at.Wall, Tick: at.Tick, Mark: math.MaxUint32}, {Wall: at.Wall + 1}} {
			if _, e := c.Read(nil, o.horizon, maxTime, s); e == api.ErrTooOld {
				t.Fatalf("Read at %v is too old, with the pin %d at %v", s, id, at)
			}
		}
	}
}

// Cells by random commands: each reply, all that is told behind it, and what
// was told ahead.
func TestP14_4P14_5P14_6Model(t *testing.T) {
	for seed := range 400 {
		d := dice(seed)
		c, o, h := newCell(t, seed%maxShards), newModel(seed%maxShards), newHistory()
		for range 150 {
			m := d.command(o)
			before, _ := c.Deed(m.Deed)
			want := o.do(m)
			if r := c.Do(m); r != want {
				t.Fatalf("seed %d: Do(%+v): %+v, want %+v", seed, m, r, want)
			}
			wantModel(t, c, o)
			h.wantFinal(t, c, m, want, before.State == open)
			h.wantOnce(t, c, m, want)
			h.wantRising(t, c, o)
			for range 3 {
				if a, ok := wantAnswered(t, c, o, d.question(o)); ok {
					h.answers = append(h.answers, a)
					if isBehind(a.q.at, h.latest) {
						h.latest = a.q.at
					}
				}
			}
			if n := len(h.answers); n > 40 {
				h.answers = append(h.answers[:20], h.answers[n-15:]...)
			}
		}
	}
}

// The random commands do enough of each kind, with each outcome.
func TestP14_1ModelIsReached(t *testing.T) {
	seen := map[string]int{}
	for seed := range 200 {
		d := dice(seed)
		c, o := newCell(t, seed%maxShards), newModel(seed%maxShards)
		for range 150 {
			m := d.command(o)
			o.do(m)
			r := c.Do(m)
			seen[fmt.Sprint(m.Kind, " ", r.Err, " ", r.State)]++
			_, e := c.Read(nil, o.horizon, maxTime, d.stamp())
			seen[fmt.Sprint("read ", e)]++
		}
	}
	for _, outcome := range []string{
		"1 0 1", "1 0 2", "1 0 3", "1 1 0", "1 120 0", "2 0 2", "2 0 3", "2 6 0", "2 1 0", "3 0 1", "3 0 2", "3 0 3", "3 1 0", "4 0 2", "4 0 3", "4 1 0", "4 6 0",
		"5 0 0", "5 1 0", "6 0 0", "6 1 0", "6 101 0", "6 102 0", "6 3 0", "7 0 0", "7 1 0", "8 0 0", "8 1 0", "8 100 0", "8 7 0", "9 0 0",
		"read 0", "read 1", "read 100", "read 101", "read 102",
	} {
		if seen[outcome] < 20 {
			t.Errorf("%s was met %d times", outcome, seen[outcome])
		}
	}
}

// Cells of like commands are alike, also by way of their bytes.
func TestR5SameCommands(t *testing.T) {
	for seed := range 40 {
		d := dice(seed)
		a, b, o := newCell(t, 0), newCell(t, 0), newModel(0)
		for range 100 {
			m := d.command(o)
			o.do(m)
			back, e := cell.Decode(cell.Encode(m))
			if e != api.OK {
				back = m // a stamp that isn't right
			}
			if r, s := a.Do(m), b.Do(back); r != s {
				t.Fatalf("Do(%+v): %+v and %+v", m, r, s)
			}
		}
		if shown(a) != shown(b) {
			t.Errorf("two cells of like commands:\n%s\n%s", shown(a), shown(b))
		}
	}
}

// A query is answered as the model's points are.
func TestP14_2AskModel(t *testing.T) {
	for seed := range 60 {
		d := dice(seed)
		c, o := newCell(t, 0), newModel(0)
		for range 120 {
			m := d.command(o)
			c.Do(m)
			o.do(m)
			p := d.question(o)
			q := ask.Query{Op: d.below(7), Rules: rules(p.asked), From: p.from, To: p.to, Step: int64(d.below(4)), Notes: d.below(2) == 0}
			if q.Op == ask.Points && d.below(4) > 0 {
				q.Step = 0
			}
			points, e := o.read(q.Rules, q.From, q.To, p.at)
			var want ask.Answer
			if !ask.Right(q) {
				e = api.ErrArg
			} else if e == api.OK {
				want, e = ask.Run(q, points)
			}
			if a, f := c.Ask(q, p.at); f != e || !sameAnswer(a, want) {
				t.Fatalf("Ask(%s) at %v: %+v, error %d, want %+v, error %d", ask.Text(q), p.at, a, f, want, e)
			}
		}
	}
}

func sameAnswer(a, b ask.Answer) bool {
	return samePoints(a.Notes, b.Notes) && slices.EqualFunc(a.Rows, b.Rows, func(r, s ask.Row) bool {
		return label.Compare(r.Set, s.Set) == 0 && slices.Equal(r.Cells, s.Cells)
	})
}

// What is laid down behind a Cut is seen as if nothing had been cut.
func TestP14_4CutThenResolve(t *testing.T) {
	kinds := []api.Write{num("{}", 5, 1), text("{}", 5, "a"), none("{}", 5)}
	for i := range 27 {
		whole, cut := newCell(t, 0), newCell(t, 0)
		both := func(m cell.Cmd) {
			does(t, whole, m)
			does(t, cut, m)
		}
		for deed := range uint32(3) {
			both(cell.Cmd{Kind: prepare, Deed: deed + 1, At: api.Stamp{Wall: int64(deed)*2 + 1}, Writes: []api.Write{kinds[[]int{i, i / 3, i / 9}[deed]%3]}})
		}
		both(resolves(1, true, "1.0.1"))
		both(closesAt("9.0.0"))
		does(t, cut, cutsAt("2.0.0"))
		both(resolves(3, true, "7.0.3"))
		both(resolves(2, true, "7.0.2"))
		does(t, cut, cutsAt("5.0.0"))
		for _, at := range []string{"5.0.0", "6.9.9", "7.0.1", "7.0.2", "7.0.3", "9.0.0"} {
			want, e := whole.Read(nil, 0, 9, st(at))
			if e != api.OK {
				t.Fatalf("Read at %s: error %d", at, e)
			}
			wantRead(t, cut, "{}", 0, 9, at, want...)
		}
	}
}

func TestP14_6PinnedIsNotTooOld(t *testing.T) {
	c := cellOf(t, prepares(1, "3.0.0", one()...), resolves(1, true, "3.0.1"), prepares(2, "6.0.0", nums(2)...), resolves(2, true, "6.0.2"), closesAt("9.0.0"), pinsAt(0, "4.0.0", 5))
	for n := range 5 {
		c.Do(cutsAt("9.0.0"))
		c.Do(cutsAt("4.0.1"))
		c.Do(cutsAt("4.0.0"))
		wantAll(t, c, "4.0.0", laid("3.0.1", one()...)...)
		wantAll(t, c, "9.0.0", laid("6.0.2", nums(2)...)...)
		does(t, c, ticks())
		if c.Ticks() != int64(n+1) {
			t.Errorf("Ticks: %d", c.Ticks())
		}
	}
	does(t, c, cutsAt("9.0.0"))
	wantAllError(t, c, "4.0.0", api.ErrTooOld)
}

func TestR1NilCell(t *testing.T) {
	var c *cell.Cell
	for kind := -1; kind < 12; kind++ {
		wantReply(t, c, cell.Cmd{Kind: kind, Deed: 1, Token: "t", Writes: one(), N: 1}, cell.Reply{Err: api.ErrNil})
		wantReply(t, c, cell.Cmd{Kind: kind}, cell.Reply{Err: api.ErrNil})
	}
	wantReadError(t, c, nil, 0, 9, api.Stamp{}, api.ErrNil)
	wantReadError(t, c, []match.Rule{{}}, -1, -2, api.Stamp{Wall: -1}, api.ErrNil)
	wantAskError(t, c, ask.Query{}, api.Stamp{}, api.ErrNil)
	wantAskError(t, c, ask.Query{Op: -1}, api.Stamp{Wall: -1}, api.ErrNil)
	if c.Closed() != (api.Stamp{}) || c.Safe() != (api.Stamp{}) || c.Ticks() != 0 || len(c.Held()) != 0 || len(c.Book()) != 0 {
		t.Errorf("a nil cell tells something")
	}
	for _, deed := range []uint32{0, 1, math.MaxUint32} {
		if r, known := c.Deed(deed); known || r != (cell.Reply{}) {
			t.Errorf("Deed(%d) of a nil cell: %+v, %v", deed, r, known)
		}
	}
}

// Of cells that aren't New's calls end, whatever they answer.
func TestR1CellsNotMadeByNew(t *testing.T) {
	for seed := range 40 {
		d := dice(seed)
		first := newCell(t, 1)
		cells := []*cell.Cell{new(cell.Cell), first, nil}
		o := newModel(1)
		for i := range 120 {
			if i == 30 {
				copied := *first
				cells[2] = &copied
			}
			m := d.command(o)
			o.do(m)
			for _, c := range cells {
				if d.below(3) > 0 {
					c.Do(m)
				}
				c.Ask(ask.Query{To: 9, Notes: true}, d.stamp())
				shown(c)
			}
		}
	}
}

func TestR1AnyArguments(t *testing.T) {
	edges := []int64{math.MinInt64, -1, 0, 1, 1 << 20, 1<<20 + 1, maxTime, maxTime + 1, math.MaxInt64}
	batches := append(append(wrongBatches(), rightBatches()...), make([]api.Write, 1<<16))
	stamps := append(wrongStamps(), api.Stamp{}, st("5.0.1"), st(lastTick), api.Stamp{Wall: math.MaxInt64, Tick: math.MaxUint32, Mark: math.MaxUint32})
	tokens := append(rightTokens(), wrongTokens()...)
	d := dice(77)
	for seed := range maxShards {
		c, again := newCell(t, seed), newCell(t, seed)
		for range 4000 {
			m := cell.Cmd{
				Kind: d.below(12), Deed: of(&d, 0, 1, uint32(d.below(40)), 1<<31, math.MaxUint32), At: of(&d, stamps...), Yes: d.below(2) == 0,
				Token: of(&d, tokens...), N: of(&d, edges...), Id: int(of(&d, edges...)), Writes: of(&d, batches...),
			}
			r, s := c.Do(m), again.Do(m)
			if r != s || r.Err != api.OK && r != (cell.Reply{Err: r.Err}) {
				t.Fatalf("Do(%+v): %+v and %+v", m, r, s)
			}
			from, to, at := of(&d, edges...), of(&d, edges...), of(&d, stamps...)
			if l, e := c.Read(of(&d, nil, rules("{}"), []match.Rule{{}}), from, to, at); e != api.OK && len(l) != 0 {
				t.Fatalf("Read from %d to %d at %v: %v, error %d", from, to, at, l, e)
			}
			c.Ask(ask.Query{Op: d.below(8) - 1, From: from, To: to, Step: of(&d, edges...)}, at)
		}
		if shown(c) != shown(again) {
			t.Errorf("two cells of like commands:\n%s\n%s", shown(c), shown(again))
		}
	}
}

func TestR1AnyBytes(t *testing.T) {
	d := dice(78)
	for range 20000 {
		b := []byte(d.bytes(60))
		m, e := cell.Decode(b)
		if e != modelDecode(b) || e != api.OK && !reflect.DeepEqual(m, cell.Cmd{}) {
			t.Errorf("Decode(%x): %+v, error %d", b, m, e)
		}
	}
}

// The greatest book, and the most deeds, are not slow.
func TestR1MuchWorkEnds(t *testing.T) {
	c := newCell(t, 0)
	l := nums(maxWrites)
	for i := range l {
		l[i].Set = pairs(maxPairs)
		l[i].Set[maxPairs-1].Value = strconv.Itoa(i)
		l[i].Time = 5
	}
	for i := range maxDeeds {
		deed := uint32(i + 1)
		does(t, c, begins(strconv.Itoa(i), l...), cell.Cmd{Kind: prepare, Deed: deed, At: api.Stamp{Wall: 5}, Writes: l})
		does(t, c, cell.Cmd{Kind: resolve, Deed: deed, Yes: true, At: api.Stamp{Wall: 5, Mark: deed}})
	}
	does(t, c, closesAt("5.0.0"))
	if l, e := c.Read(nil, 0, 9, st("5.0.4294967295")); e != api.OK || len(l) != maxWrites {
		t.Errorf("Read: %d points, error %d", len(l), e)
	}
	if l := c.Book(); len(l) != maxDeeds || len(l[maxDeeds-1].Writes) != maxWrites {
		t.Errorf("the book has %d batches", len(l))
	}
}

// roomy is a batch with room behind its end, and behind its sets' ends.
func roomy() []api.Write {
	l := make([]api.Write, 0, 8)
	for i := range 2 {
		s := append(make([]api.Pair, 0, 4), api.Pair{Name: "a", Value: strconv.Itoa(i)})
		l = append(l, api.Write{Set: s, Time: 5, Kind: sample, Num: int64(i)})
	}
	return l
}

// spoil writes over a batch, its spare room too.
func spoil(l []api.Write) {
	for _, w := range l {
		clear(w.Set[:cap(w.Set)])
	}
	clear(l[:cap(l)])
}

func TestR3ArgumentsAreLeftAlone(t *testing.T) {
	l := roomy()
	m := cell.Cmd{Kind: begin, Token: "t", Deed: 1, At: st("5.0.1"), Yes: true, Writes: l}
	asked := append(make([]match.Rule, 0, 4), rules(`{a!="7"}`)...)
	c := newCell(t, 0)
	for _, kind := range []int{begin, decide, prepare, resolve, closes} {
		m.Kind = kind
		does(t, c, m)
		cell.Encode(m)
	}
	c.Read(asked, 0, 9, st("5.0.1"))
	c.Ask(ask.Query{Rules: asked, To: 9}, st("5.0.1"))
	cell.RightBatch(l)
	b := append(cell.Encode(m), 1, 2, 3)
	cell.Decode(b[:len(b)-3])
	if !reflect.DeepEqual(l, roomy()) || !slices.Equal(asked, rules(`{a!="7"}`)) || !slices.Equal(b, append(cell.Encode(m), 1, 2, 3)) {
		t.Errorf("writes %v, rules %v, bytes %x", l, asked, b)
	}
	for _, w := range append(l, l[:cap(l)][len(l):]...) {
		for _, p := range w.Set[:cap(w.Set)][len(w.Set):] {
			if p != (api.Pair{}) {
				t.Errorf("the room behind a set's end: %v", w.Set[:cap(w.Set)])
			}
		}
	}
}

func TestR3NothingIsKeptOfArguments(t *testing.T) {
	book, part := roomy(), roomy()
	c := cellOf(t, begins("t", book...), cell.Cmd{Kind: begin, Token: "u", Writes: book}, cell.Cmd{Kind: prepare, Deed: 1, At: st("5.0.0"), Writes: part})
	spoil(book)
	spoil(part)
	does(t, c, resolves(1, true, "5.0.1"), closesAt("9.0.0"))
	wantAll(t, c, "9.0.0", laid("5.0.1", roomy()...)...)
	wantReply(t, c, begins("t", roomy()...), stands(1, open, zero))
	wantReply(t, c, begins("u", roomy()...), stands(5, open, zero))
	b := cell.Encode(prepares(1, "5.0.0", roomy()...))
	m, _ := cell.Decode(b)
	clear(b)
	if !sameCmd(m, prepares(1, "5.0.0", roomy()...)) {
		t.Errorf("a command behind its bytes were written over: %+v", m)
	}
}

func TestR3AnswersAreNew(t *testing.T) {
	c := cellOf(t, begins("t", roomy()...), begins("u", roomy()...), prepares(1, "5.0.0", roomy()...), resolves(1, true, "5.0.1"),
		prepares(2, "9.5.0", one()...), prepares(3, "9.5.0", one()...), closesAt("9.0.0"))
	before := shown(c)
	points, _ := c.Read(nil, 0, 9, st("7.0.0"))
	for _, p := range points {
		clear(p.Set[:cap(p.Set)])
	}
	clear(points[:cap(points)])
	held := c.Held()
	clear(held[:cap(held)])
	items := c.Book()
	for _, it := range items {
		spoil(it.Writes)
	}
	clear(items[:cap(items)])
	a, _ := c.Ask(ask.Query{To: 9}, st("7.0.0"))
	clear(a.Rows[0].Set)
	clear(a.Rows[0].Cells)
	if after := shown(c); after != before {
		t.Errorf("behind answers that were written over:\n%s\nahead of it:\n%s", after, before)
	}
	b := cell.Encode(full())
	clear(b[:cap(b)])
	wantDecoded(t, full())
}

// No two lists of one answer share memory: what is written over in one of them
// isn't to be seen in another.
func TestR3NoTwoListsShare(t *testing.T) {
	c := cellOf(t, begins("t", roomy()...), begins("u", roomy()...), prepares(1, "5.0.0", num(`{a="0"}`, 1, 1), num(`{a="0"}`, 2, 2)), resolves(1, true, "5.0.1"), closesAt("9.0.0"))
	var sets [][]api.Pair
	for _, it := range c.Book() {
		it.Writes[0].Num = 99
		for _, w := range it.Writes {
			sets = append(sets, w.Set)
		}
	}
	points, _ := c.Read(nil, 0, 9, st("7.0.0"))
	for _, p := range points {
		sets = append(sets, p.Set)
	}
	m, _ := cell.Decode(cell.Encode(begins("t", roomy()...)))
	sets = append(sets, m.Writes[0].Set, m.Writes[1].Set)
	for i, s := range sets {
		s[0].Name = "set" + strconv.Itoa(i)
	}
	for i, s := range sets {
		if s[0].Name != "set"+strconv.Itoa(i) {
			t.Errorf("the set %d is %v", i, s)
		}
	}
	if l := c.Book(); l[0].Writes[0].Num != 0 || l[1].Writes[0].Num != 0 {
		t.Errorf("Book: %v", l)
	}
}

func TestR4NilAndEmptyLists(t *testing.T) {
	for _, empty := range [][]api.Write{nil, {}, one()[:0]} {
		c := newCell(t, 0)
		wantRefused(t, c, begins("t", empty...), api.ErrArg)
		wantRefused(t, c, prepares(1, "5.0.0", empty...), api.ErrArg)
		if cell.RightBatch(empty) {
			t.Errorf("RightBatch(%v) is true", empty)
		}
		if !slices.Equal(cell.Encode(begins("t", empty...)), cell.Encode(begins("t"))) {
			t.Errorf("Encode of %v is another one", empty)
		}
	}
	sets := [][]api.Pair{nil, {}, set(`{a="1"}`)[:0]}
	for _, s := range sets {
		c := cellOf(t, begins("t", api.Write{Set: s, Kind: sample}), prepares(1, "5.0.0", api.Write{Set: s, Kind: sample}), resolves(1, true, "5.0.1"), closesAt("9.0.0"))
		for _, o := range sets {
			wantReply(t, c, begins("t", api.Write{Set: o, Kind: sample}), stands(1, open, zero))
			if cell.RightBatch([]api.Write{{Set: s, Kind: sample}, {Set: o, Kind: sample}}) {
				t.Errorf("RightBatch of %v and %v is true", s, o)
			}
			wantAll(t, c, "9.0.0", laid("5.0.1", api.Write{Set: o, Kind: sample})...)
		}
		for _, asked := range [][]match.Rule{nil, {}, rules(`{a="1"}`)[:0]} {
			if l, e := c.Read(asked, 0, 9, st("9.0.0")); e != api.OK || len(l) != 1 {
				t.Errorf("Read of %v: %v, error %d", asked, l, e)
			}
		}
	}
}
