package ask_test

import (
	"math"
	"reflect"
	"strings"
	"testing"

	"slackwater/api"
	"slackwater/ask"
	"slackwater/match"
	"slackwater/tally"
)

// The limits, the ops and the kinds stand here as numbers, so that the tests
// hold them, too.
const (
	maxText    = 4096
	maxPoints  = 65536
	maxWindows = 1024
	maxPairs   = 16
	maxTime    = 1 << 62
)

const (
	points = 0
	sum    = 1
	count  = 2
	least  = 3
	most   = 4
	delta  = 5
)

const (
	sample = 1
	note   = 2
	gone   = 3
)

const (
	lowest  = math.MinInt64
	highest = math.MaxInt64
)

// opWords are the ops as they are written, by their numbers.
func opWords() []string {
	return []string{"points", "sum", "count", "min", "max", "delta"}
}

func wrongOps() []int {
	return []int{-1, 6, 7, -5, 1 << 8, 1<<8 + 1, 1 << 32, 1<<32 + 1, 1<<32 + 5, math.MinInt, math.MinInt + 1, math.MaxInt}
}

// spanOf is a right query of an op and a span, with one window.
func spanOf(op int, from, to int64) ask.Query {
	q := ask.Query{Op: op, From: from, To: to}
	if op != points {
		q.Step = max(to, 1)
	}
	return q
}

func is(name, value string) match.Rule {
	return match.Rule{Name: name, Op: 1, Value: value}
}

// set is the labels of names and values that stand by turns.
func set(words ...string) []api.Pair {
	var l []api.Pair
	for i := 0; i < len(words); i += 2 {
		l = append(l, api.Pair{Name: words[i], Value: words[i+1]})
	}
	return l
}

func sampleOf(s []api.Pair, at, num int64) api.Point {
	return api.Point{Set: s, Time: at, Kind: sample, Num: num, At: api.Stamp{Wall: 7 + at, Tick: 1, Mark: 2}}
}

func noteOf(s []api.Pair, at int64, text string) api.Point {
	return api.Point{Set: s, Time: at, Kind: note, Text: text, At: api.Stamp{Wall: 9 + at, Tick: 3, Mark: 4}}
}

// same says whether two answers tell the same. A nil list and an empty one do.
func same(a, b ask.Answer) bool {
	if len(a.Rows) != len(b.Rows) || len(a.Notes) != len(b.Notes) {
		return false
	}
	for i, r := range a.Rows {
		if !sameSet(r.Set, b.Rows[i].Set) || !reflect.DeepEqual(r.Cells, b.Rows[i].Cells) {
			return false
		}
	}
	for i, p := range a.Notes {
		o := b.Notes[i]
		if !sameSet(p.Set, o.Set) || p.Time != o.Time || p.Kind != o.Kind || p.Num != o.Num || p.Text != o.Text || p.At != o.At {
			return false
		}
	}
	return true
}

func sameSet(a, b []api.Pair) bool {
	return len(a) == 0 && len(b) == 0 || reflect.DeepEqual(a, b)
}

func sameQuery(a, b ask.Query) bool {
	if len(a.Rules) == 0 && len(b.Rules) == 0 {
		a.Rules, b.Rules = nil, nil
	}
	return reflect.DeepEqual(a, b)
}

func wantRight(t *testing.T, q ask.Query, want bool) {
	t.Helper()
	if got := ask.Right(q); got != want {
		t.Errorf("Right(%+v): %v, want %v", q, got, want)
	}
}

func wantText(t *testing.T, q ask.Query, want string) {
	t.Helper()
	if got := ask.Text(q); got != want {
		t.Errorf("Text(%+v): %q, want %q", q, got, want)
	}
}

func wantParse(t *testing.T, text string, want ask.Query) {
	t.Helper()
	if q, e := ask.Parse(text); e != api.OK || !sameQuery(q, want) {
		t.Errorf("Parse(%q): %+v, error %d, want %+v", text, q, e, want)
	}
}

func wantParseError(t *testing.T, text string, want api.Errno) {
	t.Helper()
	if q, e := ask.Parse(text); e != want || !reflect.DeepEqual(q, ask.Query{}) {
		t.Errorf("Parse(%.80q) of %d bytes: %+v, error %d, want error %d", text, len(text), q, e, want)
	}
}

func wantRun(t *testing.T, q ask.Query, l []api.Point, want ask.Answer) {
	t.Helper()
	if a, e := ask.Run(q, l); e != api.OK || !same(a, want) {
		t.Errorf("Run(%s) of %d points: %+v, error %d, want %+v", ask.Text(q), len(l), a, e, want)
	}
}

func wantRunError(t *testing.T, q ask.Query, l []api.Point, want api.Errno) {
	t.Helper()
	if a, e := ask.Run(q, l); e != want || len(a.Rows) != 0 || len(a.Notes) != 0 {
		t.Errorf("Run(%+v) of %d points: %d rows, %d notes, error %d, want error %d", q, len(l), len(a.Rows), len(a.Notes), e, want)
	}
}

func TestP13_1Ops(t *testing.T) {
	if ask.Points != points {
		t.Errorf("Points is %d", ask.Points)
	}
	for op, word := range opWords() {
		text := word + "{} 0 1"
		if op != points {
			text += " 1"
		}
		wantText(t, spanOf(op, 0, 1), text)
		wantParse(t, text, spanOf(op, 0, 1))
	}
}

func TestP13_1Right(t *testing.T) {
	for op := range opWords() {
		for _, c := range [][2]int64{{0, 0}, {0, 1}, {5, 5}, {5, 9}, {0, maxTime}, {maxTime - 1, maxTime}, {maxTime, maxTime}} {
			q := spanOf(op, c[0], c[1])
			wantRight(t, q, true)
			q.Notes = true
			wantRight(t, q, true)
			q.Rules = []match.Rule{is("a", ""), {Name: "b", Op: 4, Value: "x"}, is("a", "")}
			wantRight(t, q, true)
		}
		for _, c := range [][2]int64{{-1, 0}, {-1, 5}, {lowest, 5}, {lowest, highest}, {5, 4}, {1, 0}, {maxTime, 0}, {0, -1}, {0, lowest}, {-2, -1},
			{-1, -1}, {0, maxTime + 1}, {maxTime, maxTime + 1}, {maxTime + 1, maxTime + 1}, {0, highest}, {highest, highest}, {highest, 0}} {
			q := spanOf(op, c[0], c[1])
			wantRight(t, q, false)
			if op != points {
				q.Step = maxTime
				wantRight(t, q, false)
			}
		}
	}
	for _, op := range wrongOps() {
		wantRight(t, ask.Query{Op: op, To: 9, Step: 3}, false)
		wantRight(t, ask.Query{Op: op, To: 9}, false)
		wantRight(t, ask.Query{Op: op}, false)
	}
}

func TestP13_1RightStep(t *testing.T) {
	for _, step := range []int64{lowest, -maxTime, -1, 1, 9, maxTime, highest} {
		wantRight(t, ask.Query{Op: points, To: 9, Step: step}, false)
	}
	for op := sum; op <= delta; op++ {
		for _, step := range []int64{lowest, -maxTime, -9, -1, 0, maxTime + 1, highest} {
			wantRight(t, ask.Query{Op: op, To: 9, Step: step}, false)
			wantRight(t, ask.Query{Op: op, To: 0, Step: step}, false)
		}
		for _, step := range []int64{1, 2, 9, 10, maxTime - 1, maxTime} {
			wantRight(t, ask.Query{Op: op, To: 9, Step: step}, true)
			wantRight(t, ask.Query{Op: op, From: 9, To: 9, Step: step}, true)
		}
	}
}

func TestP13_1RightWindows(t *testing.T) {
	for op := sum; op <= delta; op++ {
		for _, c := range []struct {
			from, to, step int64
			want           bool
		}{
			{0, maxWindows, 1, true}, {0, maxWindows + 1, 1, false},
			{7, maxWindows + 7, 1, true}, {7, maxWindows + 8, 1, false},
			{0, maxWindows * 3, 3, true}, {0, maxWindows*3 + 1, 3, false}, {0, maxWindows*3 - 1, 3, true},
			{0, maxTime, maxTime / maxWindows, true}, {0, maxTime, maxTime/maxWindows - 1, false},
			{0, maxTime, 1, false}, {0, maxTime, maxTime, true}, {maxTime - maxWindows, maxTime, 1, true},
		} {
			wantRight(t, ask.Query{Op: op, From: c.from, To: c.to, Step: c.step}, c.want)
		}
	}
	// Points have no windows.
	wantRight(t, ask.Query{Op: points, To: maxTime}, true)
}

func TestP13_1RightRules(t *testing.T) {
	many := make([]match.Rule, maxPairs)
	for i := range many {
		many[i] = is("a", "")
	}
	for op := range opWords() {
		q := spanOf(op, 0, 9)
		q.Rules = many
		wantRight(t, q, true)
		for _, wrong := range [][]match.Rule{
			append(many[:maxPairs:maxPairs], is("a", "")),
			{{Name: "a", Op: 0}}, {{Name: "a", Op: 5}}, {{Name: "", Op: 1}}, {{Name: "1", Op: 1}}, {is("a", "\n")},
			{is("a", strings.Repeat("x", 65))}, {is(strings.Repeat("x", 33), "")}, {is("a", ""), {}},
		} {
			q.Rules = wrong
			wantRight(t, q, false)
		}
	}
}

// texts are right queries, and their texts.
func texts() map[string]ask.Query {
	a := []match.Rule{is("a", "1")}
	return map[string]ask.Query{
		"sum{a=\"1\"} 0 10 5 notes":     {Op: sum, Rules: a, To: 10, Step: 5, Notes: true},
		"sum{a=\"1\"} 0 10 5":           {Op: sum, Rules: a, To: 10, Step: 5},
		"points{} 0 0":                  {},
		"points{} 0 1":                  {To: 1},
		"points{} 0 0 notes":            {Notes: true},
		"points{a=\"1\"} 3 10 notes":    {Rules: a, From: 3, To: 10, Notes: true},
		"count{} 7 1000 100":            {Op: count, From: 7, To: 1000, Step: 100},
		"min{} 0 1024 1":                {Op: least, To: 1024, Step: 1},
		"max{} 5 5 4611686018427387904": {Op: most, From: 5, To: 5, Step: maxTime},
		"delta{} 4611686018427387903 4611686018427387904 1 notes": {Op: delta, From: maxTime - 1, To: maxTime, Step: 1, Notes: true},
		"points{} 4611686018427387904 4611686018427387904":        {From: maxTime, To: maxTime},
		"points{a=\"{} 0 1 notes\",b!=\"\"} 0 1":                  {Rules: []match.Rule{is("a", "{} 0 1 notes"), {Name: "b", Op: 2}}, To: 1},
		"points{a^=\"\\\"}\",a*=\"\\\\\"} 0 1": {Rules: []match.Rule{{Name: "a", Op: 3, Value: "\"}"},
			{Name: "a", Op: 4, Value: "\\"}}, To: 1},
	}
}

func TestP13_1TextAndParse(t *testing.T) {
	for text, q := range texts() {
		wantRight(t, q, true)
		wantText(t, q, text)
		wantParse(t, text, q)
	}
}

func TestP13_1TextOfAnyQuery(t *testing.T) {
	for _, op := range wrongOps() {
		wantText(t, ask.Query{Op: op}, "?{} 0 0 0")
		wantText(t, ask.Query{Op: op, Rules: []match.Rule{is("a", "1")}, From: 1, To: 2, Step: 3, Notes: true}, "?{a=\"1\"} 1 2 3 notes")
	}
	wantText(t, ask.Query{Op: sum, From: -1, To: -20, Step: -300}, "sum{} -1 -20 -300")
	wantText(t, ask.Query{Op: points, From: -1, To: -20, Step: -300, Notes: true}, "points{} -1 -20 notes")
	wantText(t, ask.Query{Op: points, From: 9, To: 2, Step: 5}, "points{} 9 2")
	wantText(t, ask.Query{Op: delta, From: lowest, To: highest, Step: lowest},
		"delta{} -9223372036854775808 9223372036854775807 -9223372036854775808")
	wantText(t, ask.Query{Op: count, Rules: []match.Rule{{Name: "", Op: 9, Value: "\""}, {}}}, "count{\"\\\"\",\"\"} 0 0 0")
}

func TestP13_1ParseNoSuchOp(t *testing.T) {
	for _, text := range []string{
		"", "sum", "points", "points 0 1", "sum 0 1 1", "}", "notes", " ", "\x00", "sum[] 0 1 1",
		"{", "{}", "{} 0 1", "{} 0 1 1", "?{} 0 1", "?{} 0 1 1", "mean{} 0 1 1", "Sum{} 0 1 1", "SUM{} 0 1 1", "sum {} 0 1 1", " sum{} 0 1 1",
		"su{} 0 1 1", "summ{} 0 1 1", "sumsum{} 0 1 1", "pointssum{} 0 1", "point{} 0 1", "points\n{} 0 1", "0{} 0 1", "1{} 0 1 1",
		"sum}{} 0 1 1", "a=\"1\"{} 0 1",
		// That there is no op goes ahead of all that stands behind it.
		"mean{a} 0 1 1", "{a} 0 1", "mean{", "mean{} x", "{{", "{sum{} 0 1 1",
	} {
		wantParseError(t, text, api.ErrAsk)
	}
}

func TestP13_1ParseNoRules(t *testing.T) {
	for _, rules := range []string{
		"{", "{a", "{a}", "{a=}", "{a=1}", "{a=\"1\"", "{a=\"1\",}", "{,}", "{a=\"1\"b=\"2\"}", "{ }", "{a~\"1\"}", "{a==\"1\"}", "{1=\"1\"}",
		"{=\"1\"}", "{a=\"\\x\"}", "{a=\"\n\"}", "{{}", "{a=\"1\"}"[:6], "{" + strings.Repeat("a=\"\",", maxPairs) + "a=\"\"}",
		"{a=\"" + strings.Repeat("x", 65) + "\"}", "{" + strings.Repeat("x", 33) + "=\"\"}",
	} {
		for _, word := range opWords() {
			for _, rest := range []string{"", " 0 1", " 0 1 1", " 0 1 1 notes", " x", " 5 1 0", "}"} {
				if rest == "}" && (rules == "{" || strings.HasSuffix(rules, "\"") && rules != "{a=\"1") {
					continue // with it, rules stand there
				}
				wantParseError(t, word+rules+rest, api.ErrMatch)
			}
		}
	}
}

func TestP13_1ParseAnotherRest(t *testing.T) {
	for _, rest := range []string{
		"", " ", " 0", " 0 ", " 0 1 ", "0 1", " 0  1", "  0 1", " 0 1 notes ", " 0 1  notes", " 0 1notes", " 0 1 note", " 0 1 Notes", " 0 1 notess",
		" 0 1 notes notes", " 0 1 notes 1", " notes", " notes 0 1", " 0 notes", " 0\t1", "\t0 1", " 0\n1", " 0 1\n", " 0 1\x00", " 0,1", " a 1", " 0 a",
		" 00 1", " 0 01", " 0 00", " +0 1", " 0 +1", " -0 1", " 0 -0", " 0 1_0", " 0 0x1", " 0 1e1", " 0 1.", " 0 1.0", " 0 0b1", " - 1", " 0 -", " 0 +",
		" -1 1", " 0 -1", " 1 0", " 5 4", " 4611686018427387905 4611686018427387905", " 0 4611686018427387905", " 0 9223372036854775807",
		" 0 9223372036854775808", " 0 18446744073709551616", " 0 18446744073709551617", " 0 99999999999999999999999", " -9223372036854775808 1",
		" -9223372036854775809 1", " 0 \xff", " \uff10 1", " 0 1}", "} 0 1", "{} 0 1", " 0 1 {}",
	} {
		wantParseError(t, "points{}"+rest, api.ErrAsk)
		wantParseError(t, "points{a=\"1\"}"+rest, api.ErrAsk)
		wantParseError(t, "sum{}"+rest, api.ErrAsk)
		if !strings.Contains(rest, "notes") {
			wantParseError(t, "sum{}"+rest+" 1", api.ErrAsk)
		}
	}
	for _, rest := range []string{
		" 0 1", " 0 1 notes", " 0 10", " 0 1 0", " 0 1 -1", " 0 1 01", " 0 1 +1", " 0 1 1 ", " 0 1 1 1", " 0 1 1 1 notes", " 0 1 1  notes", " 0 1  1", " 0 1 1notes",
		" 0 1 1 note", " 0 1 1 notes ", " 0 1 notes 1", " 0 1 1 notes notes", " 0 1 x", " 0 1 4611686018427387905", " 0 1 9223372036854775808",
		" 0 1025 1", " 7 1032 1", " 0 4611686018427387904 4503599627370495", " 5 4 1", " -1 0 1", " 0 4611686018427387905 4611686018427387904",
	} {
		for _, word := range opWords()[sum:] {
			wantParseError(t, word+"{}"+rest, api.ErrAsk)
		}
	}
	for _, rest := range []string{" 0 10 5", " 0 10 0", " 0 10 10 notes", " 0 10 0 notes"} {
		wantParseError(t, "points{}"+rest, api.ErrAsk)
	}
}

// Too long a text is refused ahead of all that is wrong with it.
func TestP13_1ParseTooLong(t *testing.T) {
	for _, text := range []string{"", "x", "{", "sum{", "sum{}", "points{} 0 1", "sum{} 0 1 1 notes", "mean{} 0 1 1", "sum{a} 0 1 1", "sum{} 00 1 1"} {
		for _, fill := range []string{" ", "0", "x", "{", "\x00", "\xff"} {
			long := text + strings.Repeat(fill, maxText+1-len(text))
			wantParseError(t, long, api.ErrLimit)
			wantParseError(t, long+strings.Repeat(fill, 1<<16), api.ErrLimit)
			if _, e := ask.Parse(long[:maxText]); e == api.ErrLimit || e == api.OK {
				t.Errorf("Parse(%.20q..) of %d bytes: error %d", long, maxText, e)
			}
		}
	}
	wantParseError(t, "sum{} "+strings.Repeat("0", maxText-6), api.ErrAsk)
	wantParseError(t, strings.Repeat("x", maxText), api.ErrAsk)
	wantParseError(t, "sum{"+strings.Repeat("x", maxText-4), api.ErrMatch)
}

// The greatest texts of right queries are no longer than texts may be.
func TestP13_1GreatestQuery(t *testing.T) {
	q := ask.Query{Op: count, From: maxTime - 1, To: maxTime, Step: maxTime, Notes: true}
	for range maxPairs {
		q.Rules = append(q.Rules, match.Rule{Name: strings.Repeat("n", 32), Op: 2, Value: strings.Repeat("\"\\", 32)})
	}
	wantRight(t, q, true)
	wantParse(t, ask.Text(q), q)
}

func TestP13_2Points(t *testing.T) {
	a, b, c := set("a", "1"), set("a", "1", "b", "2"), set("b", "2")
	l := []api.Point{
		sampleOf(nil, 3, 30), sampleOf(nil, 4, -40),
		sampleOf(a, 0, 1), sampleOf(a, 5, 2), sampleOf(a, 9, 3),
		sampleOf(b, 5, lowest), sampleOf(b, 6, highest),
		sampleOf(c, 1, 7),
	}
	all := ask.Answer{Rows: []ask.Row{
		{nil, cells(3, 30, 4, -40)},
		{a, cells(0, 1, 5, 2, 9, 3)},
		{b, cells(5, lowest, 6, highest)},
		{c, cells(1, 7)},
	}}
	wantRun(t, ask.Query{To: 10}, l, all)
	wantRun(t, ask.Query{To: maxTime, Notes: true}, l, all)
	wantRun(t, ask.Query{To: 10, Rules: []match.Rule{is("a", "1")}}, l, ask.Answer{Rows: all.Rows[1:3]})
	wantRun(t, ask.Query{To: 10, Rules: []match.Rule{is("a", "1"), is("b", "")}}, l, ask.Answer{Rows: all.Rows[1:2]})
	wantRun(t, ask.Query{To: 10, Rules: []match.Rule{is("a", ""), {Name: "b", Op: 2}}}, l, ask.Answer{Rows: all.Rows[3:]})
	wantRun(t, ask.Query{To: 10, Rules: []match.Rule{is("a", "2")}}, l, ask.Answer{})
	wantRun(t, ask.Query{From: 4, To: 6}, l, ask.Answer{Rows: []ask.Row{
		{nil, cells(4, -40)}, {a, cells(5, 2)}, {b, cells(5, lowest)},
	}})
}

// A time lies in a span from its From on, and below its To.
func TestP13_2Span(t *testing.T) {
	a := set("a", "1")
	times := []int64{0, 1, 4, 5, 6, 9, 10, 11, maxTime - 1, maxTime}
	var l []api.Point
	for _, at := range times {
		l = append(l, sampleOf(a, at, 1), noteOf(set("b", "1"), at, "n"))
	}
	l = byKind(l)
	for _, from := range times {
		for _, to := range times {
			if from > to {
				continue
			}
			var in []int64
			var notes []api.Point
			for _, at := range times {
				if at >= from && at < to {
					in = append(in, at, 1)
					notes = append(notes, noteOf(set("b", "1"), at, "n"))
				}
			}
			wantRun(t, ask.Query{From: from, To: to, Notes: true}, l, ask.Answer{Rows: rowOf(a, cells(in...)), Notes: notes})
			if len(in) > 0 {
				in = []int64{from, int64(len(in) / 2)}
			}
			wantRun(t, spanOf(count, from, to), l, ask.Answer{Rows: rowOf(a, cells(in...))})
		}
	}
}

// byKind lays the samples ahead of the notes.
func byKind(l []api.Point) []api.Point {
	var samples, notes []api.Point
	for _, p := range l {
		if p.Kind == sample {
			samples = append(samples, p)
		} else {
			notes = append(notes, p)
		}
	}
	return append(samples, notes...)
}

// cells are those of Froms and Nums that stand by turns.
func cells(nums ...int64) []tally.Cell {
	var l []tally.Cell
	for i := 0; i < len(nums); i += 2 {
		l = append(l, tally.Cell{From: nums[i], Num: nums[i+1]})
	}
	return l
}

// rowOf are the rows of one set, if something is told of it.
func rowOf(s []api.Pair, cells []tally.Cell) []ask.Row {
	if len(cells) == 0 {
		return nil
	}
	return []ask.Row{{Set: s, Cells: cells}}
}

func TestP13_2Windows(t *testing.T) {
	a, b := set("a", "1"), set("b", "1")
	l := []api.Point{
		sampleOf(a, 0, 3), sampleOf(a, 1, 9), noteOf(a, 2, "up"), sampleOf(a, 3, 5), sampleOf(a, 12, -2), sampleOf(a, 19, 4), sampleOf(a, 20, 100),
		sampleOf(b, 7, 6), sampleOf(b, 20, 8),
	}
	for op, want := range map[int][]tally.Cell{
		sum:   cells(0, 17, 10, 2),
		count: cells(0, 3, 10, 2),
		least: cells(0, 3, 10, -2),
		most:  cells(0, 9, 10, 4),
		delta: cells(0, 2, 10, 6),
	} {
		ofB := map[int]int64{sum: 6, count: 1, least: 6, most: 6, delta: 0}[op]
		rows := []ask.Row{{a, want}, {b, cells(0, ofB)}}
		wantRun(t, ask.Query{Op: op, To: 20, Step: 10}, l, ask.Answer{Rows: rows})
		wantRun(t, ask.Query{Op: op, To: 20, Step: 10, Notes: true}, l, ask.Answer{Rows: rows, Notes: l[2:3]})
		wantRun(t, ask.Query{Op: op, To: 20, Step: 10, Rules: []match.Rule{is("a", "")}}, l, ask.Answer{Rows: rows[1:]})
	}
	wantRun(t, ask.Query{Op: sum, From: 1, To: 20, Step: 18}, l, ask.Answer{Rows: []ask.Row{
		{a, cells(1, 12, 19, 4)}, {b, cells(1, 6)},
	}})
	wantRun(t, ask.Query{Op: count, From: 4, To: 12, Step: 3}, l, ask.Answer{Rows: []ask.Row{{b, cells(7, 1)}}})
}

// A set of which nothing is told has no row, for count too.
func TestP13_2NothingIsTold(t *testing.T) {
	a, b, c := set("a", "1"), set("b", "1"), set("c", "1")
	l := []api.Point{
		noteOf(a, 5, "up"), noteOf(a, 6, ""),
		{Set: b, Time: 5, Kind: gone}, {Set: b, Time: 6, Kind: 0, Num: 5}, {Set: b, Time: 7, Kind: 4, Num: 5}, {Set: b, Time: 8, Kind: -1, Num: 5},
		sampleOf(c, 0, 5), sampleOf(c, 9, 5),
	}
	for op := range opWords() {
		q := spanOf(op, 1, 9)
		wantRun(t, q, l, ask.Answer{})
		q.Notes = true
		wantRun(t, q, l, ask.Answer{Notes: l[:2]})
		q.Rules = []match.Rule{is("a", "")}
		wantRun(t, q, l, ask.Answer{})
		wantRun(t, q, nil, ask.Answer{})
		wantRun(t, spanOf(op, 5, 5), l, ask.Answer{})
	}
}

func TestP13_2Notes(t *testing.T) {
	a, b, c := set("a", "1"), set("a", "1", "b", "2"), set("c", "3")
	l := []api.Point{
		noteOf(nil, 4, "none"),
		noteOf(a, 0, "first"), sampleOf(a, 1, 5), noteOf(a, 5, "second"), noteOf(a, 9, "third"),
		sampleOf(b, 5, 1),
		noteOf(c, 3, "fourth"), noteOf(c, 8, strings.Repeat("\xff", 256)),
	}
	for op := range opWords() {
		for _, c := range []struct {
			from, to int64
			rules    []match.Rule
			want     []api.Point
		}{
			{0, 10, nil, []api.Point{l[0], l[1], l[3], l[4], l[6], l[7]}},
			{4, 9, nil, []api.Point{l[0], l[3], l[7]}},
			{0, 9, []match.Rule{is("a", "1")}, []api.Point{l[1], l[3]}},
			{0, 9, []match.Rule{is("c", "3")}, l[6:]},
			{0, 9, []match.Rule{is("b", "2")}, nil},
		} {
			q := spanOf(op, c.from, c.to)
			q.Rules, q.Notes = c.rules, true
			got, e := ask.Run(q, l)
			if e != api.OK || !same(ask.Answer{Notes: got.Notes}, ask.Answer{Notes: c.want}) {
				t.Errorf("Run(%s): notes %v, error %d, want %v", ask.Text(q), got.Notes, e, c.want)
			}
			q.Notes = false
			wantRun(t, q, l, ask.Answer{Rows: got.Rows})
		}
	}
}

func TestP13_2Over(t *testing.T) {
	a, b := set("a", "1"), set("b", "1")
	l := []api.Point{
		noteOf(a, 0, "up"), sampleOf(a, 1, 1), sampleOf(a, 2, 2),
		sampleOf(b, 1, highest), sampleOf(b, 2, 1), sampleOf(b, 3, -1), sampleOf(b, 4, lowest), sampleOf(b, 9, highest),
	}
	wantRunError(t, ask.Query{Op: sum, From: 1, To: 3, Step: 9, Notes: true}, l, api.ErrOver)
	wantRunError(t, ask.Query{Op: sum, From: 1, To: 10, Step: 2, Notes: true}, l, api.ErrOver)
	wantRunError(t, ask.Query{Op: sum, To: 10, Step: 3, Notes: true}, l, api.ErrOver)
	wantRunError(t, ask.Query{Op: delta, From: 4, To: 10, Step: 9, Notes: true}, l, api.ErrOver)
	for _, op := range []int{points, count, least, most} {
		if _, e := ask.Run(spanOf(op, 0, 10), l); e != api.OK {
			t.Errorf("Run of op %d: error %d", op, e)
		}
	}
	// A series of which the rules don't hold, and a sample beside the window, don't matter.
	wantRun(t, ask.Query{Op: sum, Rules: []match.Rule{is("b", "")}, To: 10, Step: 3, Notes: true}, l, ask.Answer{Rows: rowOf(a, cells(0, 3)), Notes: l[:1]})
	wantRun(t, ask.Query{Op: sum, Rules: []match.Rule{is("a", "")}, From: 2, To: 4, Step: 9}, l, ask.Answer{Rows: rowOf(b, cells(2, 0))})
	wantRun(t, ask.Query{Op: sum, Rules: []match.Rule{is("a", "")}, From: 1, To: 4, Step: 9}, l, ask.Answer{Rows: rowOf(b, cells(1, highest))})
	wantRun(t, ask.Query{Op: delta, From: 4, To: 10, Step: 5}, l, ask.Answer{Rows: rowOf(b, cells(4, 0, 9, 0))})
}

func TestP13_2WrongQueries(t *testing.T) {
	a := set("a", "1")
	over := []api.Point{noteOf(a, 0, "up"), sampleOf(a, 1, highest), sampleOf(a, 2, highest)}
	for _, l := range [][]api.Point{nil, {sampleOf(a, 1, 1)}, over} {
		for _, op := range wrongOps() {
			wantRunError(t, ask.Query{Op: op, To: 9, Step: 3, Notes: true}, l, api.ErrArg)
			wantRunError(t, ask.Query{Op: op, To: 9, Notes: true}, l, api.ErrArg)
		}
		for op := range opWords() {
			for _, wrong := range []ask.Query{
				spanOf(op, -1, 9), spanOf(op, 5, 4), spanOf(op, 0, maxTime+1), spanOf(op, lowest, highest),
				{Op: op, To: 9, Step: -1}, {Op: op, To: 9, Step: maxTime + 1},
				{Op: op, To: maxWindows + 1, Step: 1},
				{Op: op, To: 9, Step: int64(min(op, 1)), Rules: []match.Rule{{}}},
				{Op: op, To: 9, Step: int64(min(op, 1)), Rules: make([]match.Rule, maxPairs+1)},
			} {
				wrong.Notes = true
				wantRunError(t, wrong, l, api.ErrArg)
			}
		}
	}
	wantRunError(t, ask.Query{To: 9, Step: 1}, over, api.ErrArg)
	wantRunError(t, ask.Query{Op: sum, To: 9}, over, api.ErrArg)
}

func TestP13_2AsManyPointsAsMayBe(t *testing.T) {
	a := set("a", "1")
	l := make([]api.Point, maxPoints+1)
	for i := range l {
		l[i] = sampleOf(a, int64(i), 1)
	}
	for op := range opWords() {
		q := spanOf(op, 0, maxPoints)
		answer, e := ask.Run(q, l[:maxPoints])
		if e != api.OK || len(answer.Rows) != 1 || op == points && len(answer.Rows[0].Cells) != maxPoints {
			t.Errorf("Run(%s) of %d points: %d rows, error %d", ask.Text(q), maxPoints, len(answer.Rows), e)
		}
		// Points that the rules or the span leave out count, too.
		for _, q := range []ask.Query{q, spanOf(op, 0, 0), spanOf(op, 5, 6)} {
			wantRunError(t, q, l, api.ErrArg)
			q.Rules = []match.Rule{is("a", "")}
			wantRunError(t, q, l, api.ErrArg)
			wantRunError(t, q, make([]api.Point, maxPoints+1), api.ErrArg)
		}
	}
	q := ask.Query{Op: count, To: maxPoints, Step: maxPoints / maxWindows}
	answer, e := ask.Run(q, l[:maxPoints])
	if e != api.OK || len(answer.Rows) != 1 || len(answer.Rows[0].Cells) != maxWindows {
		t.Errorf("Run(%s): error %d", ask.Text(q), e)
	}
}
