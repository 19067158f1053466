package ask_test

import (
	"math"
	"reflect"
	"regexp"
	"slices"
	"strconv"
	"strings"
	"testing"

	"slackwater/api"
	"slackwater/ask"
	"slackwater/label"
	"slackwater/match"
	"slackwater/store"
	"slackwater/tally"
)

// Tests of P13.3, of what chapters say of this layer together, and of the rules
// that hold everywhere: queries held against models.

// dice throws the same numbers in each run.
type dice uint64

func (d *dice) next() uint64 {
	*d = *d*6364136223846793005 + 1442695040888963407
	x := uint64(*d)
	return x ^ x>>29
}

func (d *dice) below(n int) int { return int(d.next() >> 8 % uint64(n)) }

// of is one of these.
func of[T any](d *dice, l ...T) T { return l[d.below(len(l))] }

// num is a small number, or, now and then, one near an end.
func (d *dice) num() int64 {
	small := int64(d.below(7)) - 3
	return of(d, small, small, small, small, small, small, highest-3+small, lowest+3+small)
}

func (d *dice) rules() []match.Rule {
	var l []match.Rule
	for range of(d, 0, 0, 1, 1, 2) {
		l = append(l, match.Rule{Name: of(d, "a", "b", "c"), Op: 1 + d.below(4), Value: of(d, "", "1", "12", "2")})
	}
	return l
}

// query is a right one, mostly of small times.
func (d *dice) query() ask.Query {
	q := ask.Query{Op: d.below(6), Rules: d.rules(), From: int64(d.below(10)), Notes: d.below(2) == 0}
	q.To = q.From + int64(d.below(12))
	if q.Op != points {
		q.Step = 1 + int64(d.below(9))
	}
	return q
}

// sets are all that there are here, in order.
func sets() [][]api.Pair {
	l := [][]api.Pair{nil}
	for _, a := range []string{"", "1", "12", "2"} {
		for _, b := range []string{"", "1", "12"} {
			switch {
			case a != "" && b != "":
				l = append(l, set("a", a, "b", b))
			case a != "":
				l = append(l, set("a", a))
			case b != "":
				l = append(l, set("b", b))
			}
		}
	}
	l = append(l, set("c", "2"))
	slices.SortFunc(l, label.Compare)
	return l
}

// ordered are points of some of these sets, in the order of a store.
func (d *dice) ordered(of [][]api.Pair) []api.Point {
	var l []api.Point
	for _, s := range of {
		if d.below(3) == 0 {
			continue
		}
		for at := int64(d.below(6)); at < 22; at += 1 + int64(d.below(8)) {
			if d.below(4) == 0 {
				l = append(l, noteOf(s, at, "n"+strconv.FormatInt(at, 10)))
			} else {
				l = append(l, sampleOf(s, at, d.num()))
			}
		}
	}
	return l
}

// model answers a query by looking at all points for each set and each window.
func model(q ask.Query, l []api.Point) (ask.Answer, api.Errno) {
	var a ask.Answer
	for _, s := range sets() {
		if !match.All(q.Rules, s) {
			continue
		}
		cells, e := modelCells(q, l, s)
		if e != api.OK {
			return ask.Answer{}, e
		}
		if len(cells) > 0 {
			a.Rows = append(a.Rows, ask.Row{Set: s, Cells: cells})
		}
	}
	for _, p := range l {
		if q.Notes && p.Kind == note && p.Time >= q.From && p.Time < q.To && match.All(q.Rules, p.Set) {
			a.Notes = append(a.Notes, p)
		}
	}
	return a, api.OK
}

func modelCells(q ask.Query, l []api.Point, s []api.Pair) ([]tally.Cell, api.Errno) {
	var told []tally.Cell
	step := max(q.Step, 1) // points: each time apart
	for begin := q.From; begin < q.To; begin += step {
		var in []tally.Sample
		for _, p := range l {
			if p.Kind == sample && label.Compare(p.Set, s) == 0 && p.Time >= begin && p.Time < min(begin+step, q.To) {
				in = append(in, tally.Sample{Time: p.Time, Num: p.Num})
			}
		}
		n, _, e := tally.Fold(max(q.Op, sum), in)
		if e != api.OK {
			return nil, e
		}
		if len(in) > 0 {
			told = append(told, tally.Cell{From: begin, Num: n})
		}
	}
	return told, api.OK
}

func wantModel(t *testing.T, q ask.Query, l []api.Point) {
	t.Helper()
	want, e := model(q, l)
	if e == api.OK {
		wantRun(t, q, l, want)
	} else {
		wantRunError(t, q, l, e)
	}
}

func TestP13_2Model(t *testing.T) {
	d := dice(1)
	for range 3000 {
		l := d.ordered(sets())
		for range 4 {
			wantModel(t, d.query(), l)
		}
	}
}

// What a store tells of a query's rules and span is answered as all points are.
func TestP13_2OfAStore(t *testing.T) {
	d := dice(2)
	end := api.Stamp{Wall: 1 << 40}
	for range 300 {
		s := store.New()
		for i := range 40 {
			w := api.Write{Set: of(&d, sets()...), Time: int64(d.below(20)), Kind: 1 + d.below(3)}
			switch w.Kind {
			case sample:
				w.Num = d.num()
			case note:
				w.Text = "n" + strconv.Itoa(i)
			}
			if e := s.Put(w, api.Stamp{Wall: int64(i)}); e != api.OK {
				t.Fatalf("Put: error %d", e)
			}
		}
		all := s.Scan(nil, 0, maxTime, end)
		for range 10 {
			q := d.query()
			wantModel(t, q, all)
			wantModel(t, q, s.Scan(q.Rules, q.From, q.To, end))
		}
	}
}

func TestP13_3TwoLists(t *testing.T) {
	d := dice(3)
	for range 2000 {
		all := sets()
		cut := d.below(len(all) + 1)
		first, second := d.ordered(all[:cut]), d.ordered(all[cut:])
		q := d.query()
		a, e := ask.Run(q, first)
		b, f := ask.Run(q, second)
		both := append(first, second...)
		if e != api.OK || f != api.OK {
			wantRunError(t, q, both, api.ErrOver)
			continue
		}
		wantRun(t, q, both, ask.Answer{Rows: append(a.Rows, b.Rows...), Notes: append(a.Notes, b.Notes...)})
	}
}

func TestP13_3ManySets(t *testing.T) {
	var l []api.Point
	for i := range maxPoints / 2 {
		s := set("a", strconv.Itoa(100000+i))
		l = append(l, sampleOf(s, 1, int64(i)), noteOf(s, 2, "n"))
	}
	for op := range opWords() {
		q := spanOf(op, 0, 3)
		q.Notes = true
		whole, e := ask.Run(q, l)
		first, _ := ask.Run(q, l[:maxPoints/4])
		second, _ := ask.Run(q, l[maxPoints/4:])
		if e != api.OK || len(whole.Rows) != maxPoints/2 || len(whole.Notes) != maxPoints/2 {
			t.Fatalf("Run(%s): %d rows, %d notes, error %d", ask.Text(q), len(whole.Rows), len(whole.Notes), e)
		}
		if !same(whole, ask.Answer{Rows: append(first.Rows, second.Rows...), Notes: append(first.Notes, second.Notes...)}) {
			t.Errorf("Run(%s): the answer of both lists isn't the first one's and the second one's", ask.Text(q))
		}
	}
}

func TestP13_1RoundTrip(t *testing.T) {
	d := dice(4)
	for range 20000 {
		q := d.query()
		for range d.below(14) {
			value := of(&d, "", "\"", "\\", "{", "}", "} 0 1", ",", " ", "~", " notes", strings.Repeat("\\", 64))
			q.Rules = append(q.Rules, match.Rule{Name: of(&d, "a", "_", "sum", "Z9", strings.Repeat("n", 32)), Op: 1 + d.below(4), Value: value})
		}
		if d.below(4) == 0 {
			q.To = maxTime - int64(d.below(3))
			q.From = q.To - int64(d.below(5))
		}
		if q.Op != points && d.below(4) == 0 {
			q.Step = maxTime - int64(d.below(3))
		}
		wantRight(t, q, true)
		wantParse(t, ask.Text(q), q)
	}
}

// form is a query's text, but for what its rules and numbers may be.
var form = regexp.MustCompile(`^(?:(points)|(sum|count|min|max|delta))(\{(?:[^"{}]*"(?:[^"\\]|\\["\\])*")*\}) (0|[1-9][0-9]{0,18}) (0|[1-9][0-9]{0,18})(?: (0|[1-9][0-9]{0,18}))?( notes)?$`)

// isQuery says whether a text is a right query's, by the text alone.
func isQuery(text string) bool {
	m := form.FindStringSubmatch(text)
	if m == nil || (m[1] == "") != (m[6] != "") {
		return false
	}
	rules, used := match.Parse(m[3])
	if used != len(m[3]) || !match.Right(rules) {
		return false
	}
	from, _ := strconv.ParseUint(m[4], 10, 64)
	to, _ := strconv.ParseUint(m[5], 10, 64)
	if from > to || to > maxTime {
		return false
	}
	if m[1] != "" {
		return true
	}
	step, _ := strconv.ParseUint(m[6], 10, 64)
	return step >= 1 && step <= maxTime && (to == from || (to-from-1)/step < maxWindows)
}

// mangle changes a text somewhere.
func (d *dice) mangle(text string) string {
	at := d.below(len(text) + 1)
	end := min(len(text), at+d.below(3))
	put := of(d, "", "", " ", "0", "1", "-", "+", "\"", "\\", "{", "}", ",", "=", "!", "notes", " notes", "sum", "points", "9", "4611686018427387904", " 1", "\x00", "\xff")
	return text[:at] + put + text[end:]
}

func TestP13_1ParseModel(t *testing.T) {
	d := dice(5)
	right := 0
	for range 60000 {
		text := ask.Text(d.query())
		for range 1 + d.below(3) {
			text = d.mangle(text)
		}
		q, e := ask.Parse(text)
		if (e == api.OK) != isQuery(text) {
			t.Errorf("Parse(%q): %+v, error %d", text, q, e)
		}
		if e == api.OK {
			right++
			wantRight(t, q, true)
			wantText(t, q, text)
		} else {
			wantParseError(t, text, modelError(text))
		}
	}
	if right < 1000 {
		t.Errorf("of the texts %d are right", right)
	}
}

// modelError is the error of a text that is no right query's.
func modelError(text string) api.Errno {
	at := strings.Index(text, "{")
	if at < 0 || !slices.Contains(opWords(), text[:at]) {
		return api.ErrAsk
	}
	if _, used := match.Parse(text[at:]); used == 0 {
		return api.ErrMatch
	}
	return api.ErrAsk
}

// edges are numbers at the edges of all that is bounded.
func edges() []int64 {
	return []int64{lowest, lowest + 1, -maxTime, -1, 0, 1, 2, 1024, 1025, maxTime - 1, maxTime, maxTime + 1, highest - 1, highest}
}

// Of lists that have another order, or points that no store tells, a call ends,
// and tells the same each time.
func TestR1AnyArguments(t *testing.T) {
	var odd []api.Point
	for i, at := range edges() {
		s := set(strings.Repeat("x", i), "\xff", "", "", "a", "1")
		odd = append(odd, api.Point{Set: s[:i%4], Time: at, Kind: i - 2, Num: at, Text: "\x00"}, sampleOf(nil, at, at), noteOf(s, at, ""))
	}
	lists := [][]api.Point{nil, {}, odd, slices.Concat(odd, odd), make([]api.Point, maxPoints+1)}
	rules := [][]match.Rule{nil, {}, {{}}, {{Name: "a", Op: 9, Value: "\xff"}}, {is("a", "1")}, make([]match.Rule, maxPairs+1)}
	for _, op := range append(wrongOps(), points, sum, count, least, most, delta) {
		for _, from := range edges() {
			for _, to := range edges() {
				for i, step := range edges() {
					q := ask.Query{Op: op, Rules: rules[i%len(rules)], From: from, To: to, Step: step, Notes: i%2 == 0}
					wantSame(t, q, lists[i%len(lists)])
				}
			}
		}
	}
}

func wantSame(t *testing.T, q ask.Query, l []api.Point) {
	t.Helper()
	text := ask.Text(q)
	back, e := ask.Parse(text)
	if ask.Right(q) != (e == api.OK && sameQuery(back, q)) {
		t.Errorf("Right(%+v): %v; Parse(%q): %+v, error %d", q, ask.Right(q), text, back, e)
	}
	a, e := ask.Run(q, l)
	b, f := ask.Run(q, l)
	if e != f || !same(a, b) {
		t.Errorf("Run(%s): error %d; then error %d, or another answer", text, e, f)
	}
	if (e == api.ErrArg) != (!ask.Right(q) || len(l) > maxPoints) {
		t.Errorf("Run(%s) of %d points: error %d", text, len(l), e)
	}
	if e != api.OK && (len(a.Rows) != 0 || len(a.Notes) != 0) {
		t.Errorf("Run(%s): error %d, and an answer", text, e)
	}
}

func TestR1AnyText(t *testing.T) {
	d := dice(6)
	for range 20000 {
		b := make([]byte, d.below(20))
		for i := range b {
			b[i] = byte(d.next() >> 20)
		}
		for _, text := range []string{string(b), "sum{" + string(b), "points{}" + string(b), "max{} 0 1" + string(b)} {
			q, e := ask.Parse(text)
			if e != api.OK && !reflect.DeepEqual(q, ask.Query{}) || e == api.OK && !isQuery(text) {
				t.Errorf("Parse(%q): %+v, error %d", text, q, e)
			}
		}
	}
}

// The greatest lists and the most windows are not slow.
func TestR1MuchWorkEnds(t *testing.T) {
	l := make([]api.Point, maxPoints)
	for i := range l {
		l[i] = sampleOf(set("a", strconv.Itoa(i)), maxWindows-1, math.MaxInt64)
	}
	for op := range opWords() {
		q := ask.Query{Op: op, To: maxWindows, Notes: true}
		if op != points {
			q.Step = 1
		}
		if a, e := ask.Run(q, l); e != api.OK || len(a.Rows) != maxPoints {
			t.Errorf("Run(%s): %d rows, error %d", ask.Text(q), len(a.Rows), e)
		}
	}
}

// few are some points, and a query that tells of all of them.
func few() ([]api.Point, ask.Query) {
	a, b := set("a", "1", "b", "12"), set("a", "2")
	l := []api.Point{sampleOf(a, 1, 2), noteOf(a, 2, "up"), noteOf(a, 3, "down"), sampleOf(a, 4, 5), sampleOf(b, 1, 7), noteOf(b, 9, "up")}
	return l, ask.Query{Rules: []match.Rule{{Name: "a", Op: 2, Value: "3"}, {Name: "a", Op: 2}}, To: 10, Notes: true}
}

func TestR3ArgumentsAreLeftAlone(t *testing.T) {
	for _, room := range []int{0, 1, 3} {
		full, q := few()
		spare := slices.Clone(full)
		rules := slices.Clone(q.Rules)
		for i := range full {
			full[i].Set = append(full[i].Set, api.Pair{Name: "spare", Value: "room"})[:len(full[i].Set)]
		}
		l := full[: len(full)-room : len(full)]
		for op := range opWords() {
			q.Op, q.Step = op, int64(min(op, 1))
			ask.Run(q, l)
			ask.Run(q, l[:0])
			ask.Parse(ask.Text(q))
			ask.Right(q)
		}
		if !reflect.DeepEqual(full, spare) || !reflect.DeepEqual(q.Rules, rules) {
			t.Errorf("points %v, want %v; rules %v, want %v", full, spare, q.Rules, rules)
		}
		for _, p := range full {
			if p.Set[:cap(p.Set)][len(p.Set)].Name != "spare" {
				t.Errorf("the room behind a set's end is %v", p.Set[:cap(p.Set)])
			}
		}
	}
}

// spoil writes over all lists of an answer, their spare room too.
func spoil(a ask.Answer) {
	for _, r := range a.Rows {
		clear(r.Set[:cap(r.Set)])
		clear(r.Cells[:cap(r.Cells)])
	}
	for _, p := range a.Notes {
		clear(p.Set[:cap(p.Set)])
	}
	clear(a.Rows[:cap(a.Rows)])
	clear(a.Notes[:cap(a.Notes)])
}

func TestR3AnswersAreNew(t *testing.T) {
	for op := range opWords() {
		l, q := few()
		q.Op, q.Step = op, int64(min(op, 1))
		first, _ := ask.Run(q, l)
		second, e := ask.Run(q, l)
		if e != api.OK || len(second.Rows) != 2 || len(second.Notes) != 3 {
			t.Fatalf("Run(%s): %+v, error %d", ask.Text(q), second, e)
		}
		spoil(first)
		fresh, _ := few()
		if !reflect.DeepEqual(l, fresh) {
			t.Errorf("points %v behind an answer that was written over", l)
		}
		for _, p := range l {
			clear(p.Set)
		}
		clear(l)
		want, _ := model(q, fresh)
		if !same(second, want) {
			t.Errorf("Run(%s): %+v behind points that were written over, want %+v", ask.Text(q), second, want)
		}
	}
}

// No two lists of one answer share memory: what is written over in one of them
// isn't to be seen in another.
func TestR3NoTwoListsShare(t *testing.T) {
	l, q := few()
	a, _ := ask.Run(q, l)
	lists := [][]api.Pair{a.Rows[0].Set, a.Rows[1].Set, a.Notes[0].Set, a.Notes[1].Set, a.Notes[2].Set}
	for i, one := range lists {
		one[0].Name = "list" + strconv.Itoa(i)
	}
	for i, one := range lists {
		if one[0].Name != "list"+strconv.Itoa(i) {
			t.Errorf("list %d is %v", i, one)
		}
	}
	p, _ := ask.Parse("sum{a=\"1\",b=\"2\"} 0 1 1")
	o, _ := ask.Parse("sum{a=\"1\",b=\"2\"} 0 1 1")
	clear(p.Rules[:cap(p.Rules)])
	wantText(t, o, "sum{a=\"1\",b=\"2\"} 0 1 1")
}

func TestR4NilAndEmptyLists(t *testing.T) {
	l, q := few()
	for op := range opWords() {
		q.Op, q.Step = op, int64(min(op, 1))
		for _, empty := range [][]api.Point{nil, {}, l[:0]} {
			wantRun(t, q, empty, ask.Answer{})
		}
		for _, rules := range [][]match.Rule{nil, {}, q.Rules[:0]} {
			q := q
			q.Rules = rules
			wantRight(t, q, true)
			wantModel(t, q, l)
			wantParse(t, ask.Text(q), q)
		}
		for _, none := range [][]api.Pair{nil, {}, l[0].Set[:0]} {
			q := spanOf(op, 0, 9)
			q.Notes = true
			wantModel(t, q, []api.Point{sampleOf(none, 3, 4), noteOf(nil, 4, "n"), sampleOf([]api.Pair{}, 5, 4)})
		}
	}
}
