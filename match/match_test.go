package match_test

import (
	"regexp"
	"slices"
	"strings"
	"testing"

	"slackwater/api"
	"slackwater/match"
)

// The limits stand here as numbers, so that the tests hold them, too.
const (
	maxName  = 32
	maxValue = 64
	maxPairs = 16
)

const (
	least    = -1 << 63
	greatest = 1<<63 - 1
)

// noOps are numbers of no op.
var noOps = []int{0, -1, 5, 6, -4, 1 << 32, 1<<32 + 1, least, least + 1, greatest}

// dice throws the same numbers in each run.
type dice uint64

func (d *dice) next() uint64 {
	*d = *d*6364136223846793005 + 1442695040888963407
	x := uint64(*d)
	return x ^ x>>29
}

func (d *dice) below(n int) int { return int(d.next() >> 8 % uint64(n)) }

// of is at most n bytes of these letters.
func (d *dice) of(letters string, n int) string {
	b := make([]byte, d.below(n+1))
	for i := range b {
		b[i] = letters[d.below(len(letters))]
	}
	return string(b)
}

// pairs are labels of names and values that stand by turns.
func pairs(words ...string) []api.Pair {
	var l []api.Pair
	for i := 0; i < len(words); i += 2 {
		l = append(l, api.Pair{Name: words[i], Value: words[i+1]})
	}
	return l
}

// many are n right rules.
func many(n int) []match.Rule {
	var l []match.Rule
	for i := range n {
		l = append(l, match.Rule{Name: "n", Op: 1 + i%4, Value: "v"})
	}
	return l
}

// words are all texts of at most n of these letters.
func words(letters string, n int) []string {
	all := []string{""}
	for from := 0; n > 0; n-- {
		to := len(all)
		for _, w := range all[from:to] {
			for i := range len(letters) {
				all = append(all, w+letters[i:i+1])
			}
		}
		from = to
	}
	return all
}

func wantParse(t *testing.T, s string, want []match.Rule, used int) {
	t.Helper()
	if got, n := match.Parse(s); !slices.Equal(got, want) || n != used {
		t.Errorf("Parse of %.200q: %#v, %d, want %#v, %d", s, got, n, want, used)
	}
}

func TestP6_1Ops(t *testing.T) {
	if match.Is != 1 || match.Not != 2 || match.Begins != 3 || match.Holds != 4 {
		t.Errorf("the ops are %d, %d, %d, %d", match.Is, match.Not, match.Begins, match.Holds)
	}
}

func TestP6_1Right(t *testing.T) {
	for _, l := range [][]match.Rule{
		nil, {}, many(1), many(4), many(maxPairs),
		{{"a", 1, ""}}, {{"a", 2, ""}}, {{"a", 3, ""}}, {{"a", 4, ""}},
		{{"_", 1, " "}}, {{"Z9", 4, "~"}}, {{"a", 3, "\"\\"}},
		{{"b", 1, "x"}, {"a", 1, "x"}}, {{"a", 1, "x"}, {"a", 1, "x"}}, {{"a", 1, "x"}, {"a", 1, "y"}},
		{{strings.Repeat("n", maxName), 1, strings.Repeat("v", maxValue)}},
	} {
		if !match.Right(l) {
			t.Errorf("Right(%#v): no", l)
		}
	}
	for _, r := range []match.Rule{
		{"", 1, "x"}, {"0", 1, "x"}, {"a-", 1, "x"}, {"a=", 1, "x"}, {"\u00e4", 1, "x"}, {strings.Repeat("n", maxName+1), 1, "x"},
		{"a", 1, "\n"}, {"a", 1, "\x7f"}, {"a", 1, "x\xff"}, {"a", 1, "\u00e4"}, {"a", 1, strings.Repeat("v", maxValue+1)}, {},
	} {
		for _, l := range [][]match.Rule{{r}, append(many(1), r), append([]match.Rule{r}, many(1)...)} {
			if match.Right(l) {
				t.Errorf("Right(%#v): yes", l)
			}
		}
	}
	if match.Right(many(maxPairs+1)) || match.Right(many(1000)) {
		t.Error("Right of too many rules: yes")
	}
	for _, op := range noOps {
		if match.Right([]match.Rule{{"a", op, "x"}}) {
			t.Errorf("Right of the op %d: yes", op)
		}
	}
}

func TestP6_1AllOfOneRule(t *testing.T) {
	for _, c := range []struct {
		ask, have                string
		is, not, begins, holding bool
	}{
		{"", "", true, false, true, true},
		{"", "x", false, true, true, true},
		{"x", "", false, true, false, false},
		{"x", "x", true, false, true, true},
		{"x", "y", false, true, false, false},
		{"x", "X", false, true, false, false},
		{"x", "xy", false, true, true, true},
		{"x", "yx", false, true, false, true},
		{"x", "yxz", false, true, false, true},
		{"xy", "x", false, true, false, false},
		{"xy", "xzy", false, true, false, false},
		{"aab", "aaab", false, true, false, true},
		{"xy", "xyxy", false, true, true, true},
		{"\"\\", "a\"\\", false, true, false, true},
		{"a*", "aaa", false, true, false, false},
		{"\xff", "\u00ff\xff", false, true, false, true},
	} {
		for op, want := range []bool{match.Is: c.is, match.Not: c.not, match.Begins: c.begins, match.Holds: c.holding} {
			l := []match.Rule{{"n", op, c.ask}}
			sets := [][]api.Pair{pairs("n", c.have), pairs("a", "zz", "n", c.have, "o", "zz"), pairs("n", c.have, "n", "other")}
			if c.have == "" {
				sets = append(sets, nil, []api.Pair{}, pairs("N", "x", "nn", "x", "", "x"))
			}
			for _, set := range sets {
				if got := match.All(l, set); got != want {
					t.Errorf("All(%#v, %q): %t", l, set, got)
				}
			}
		}
	}
}

func TestP6_1AllOfNoOp(t *testing.T) {
	for _, op := range noOps {
		for _, value := range []string{"", "x", "y"} {
			r := match.Rule{Name: "a", Op: op, Value: value}
			if match.All([]match.Rule{r}, pairs("a", "x")) || match.All([]match.Rule{r}, nil) {
				t.Errorf("All(%#v): yes", r)
			}
			if match.All([]match.Rule{{"a", 1, "x"}, r}, pairs("a", "x")) || match.All([]match.Rule{r, {"a", 1, "x"}}, pairs("a", "x")) {
				t.Errorf("All(%#v) beside a rule that holds: yes", r)
			}
		}
	}
}

func TestP6_1AllOfManyRules(t *testing.T) {
	set := pairs("a", "x")
	if !match.All(nil, set) || !match.All([]match.Rule{}, nil) {
		t.Error("All of no rules: no")
	}
	both := []match.Rule{{"a", match.Is, "x"}, {"b", match.Not, ""}}
	if match.All(both, set) || !match.All(both, pairs("a", "x", "b", "y")) {
		t.Error("the chapter's first example")
	}
	// More rules than are right are asked all the same.
	yes := slices.Repeat([]match.Rule{{"a", match.Is, "x"}}, 100)
	if !match.All(yes, set) {
		t.Error("All of 100 rules that hold: no")
	}
	for i := range yes {
		l := slices.Clone(yes)
		l[i].Op = match.Not
		if match.All(l, set) {
			t.Errorf("All of 100 rules, of which the one at %d doesn't hold: yes", i)
		}
	}
	// Names that are none, and labels that are no set, too.
	odd := pairs("", "1", "b", "2", "a", "3", "a", "4")
	if !match.All([]match.Rule{{"", match.Is, "1"}, {"a", match.Is, "3"}, {"b", match.Is, "2"}, {"-", match.Is, ""}}, odd) {
		t.Error("All of odd labels: no")
	}
}

func TestP6_1AllIsEachRule(t *testing.T) {
	d := dice(1)
	yes := 0
	for range 20000 {
		var l []match.Rule
		want := true
		set := pairs("a", d.of("xy", 3), "b", d.of("xy", 3))
		for range d.below(4) {
			r := match.Rule{Name: "abc"[d.below(3):][:1], Op: d.below(6), Value: d.of("xy", 2)}
			value := map[string]string{"a": set[0].Value, "b": set[1].Value}[r.Name]
			switch r.Op {
			case 1:
				want = want && value == r.Value
			case 2:
				want = want && value != r.Value
			case 3:
				want = want && strings.Index(value, r.Value) == 0
			case 4:
				want = want && strings.Index(value, r.Value) >= 0
			default:
				want = false
			}
			l = append(l, r)
		}
		if want {
			yes++
		}
		if got := match.All(l, set); got != want {
			t.Fatalf("All(%#v, %q): %t", l, set, got)
		}
	}
	if yes < 1000 {
		t.Errorf("rules hold only %d times", yes)
	}
}

func TestP6_2Text(t *testing.T) {
	for _, c := range []struct {
		l    []match.Rule
		want string
	}{
		{nil, `{}`},
		{[]match.Rule{}, `{}`},
		{[]match.Rule{{"a", match.Is, "x"}}, `{a="x"}`},
		{[]match.Rule{{"a", match.Not, "x"}}, `{a!="x"}`},
		{[]match.Rule{{"a", match.Begins, "x"}}, `{a^="x"}`},
		{[]match.Rule{{"a", match.Holds, "x"}}, `{a*="x"}`},
		{[]match.Rule{{"a", match.Is, ""}, {"a", match.Not, ""}}, `{a="",a!=""}`},
		{[]match.Rule{{"b", match.Begins, `"`}, {"a", match.Holds, `\`}, {"c", match.Is, `,}`}}, `{b^="\"",a*="\\",c=",}"}`},
		{[]match.Rule{{"", 0, ""}, {"0 ", 9, "\n"}}, "{\"\",0 \"\n\"}"},
		{many(17), "{" + strings.Repeat(`n="v",n!="v",n^="v",n*="v",`, 4) + `n="v"}`},
	} {
		before := slices.Clone(c.l)
		if got := match.Text(c.l); got != c.want {
			t.Errorf("Text(%#v): %s, want %s", c.l, got, c.want)
		}
		if !slices.Equal(c.l, before) {
			t.Errorf("Text changed %#v to %#v", before, c.l)
		}
	}
	for _, op := range noOps {
		if got := match.Text([]match.Rule{{"a", op, "x"}}); got != `{a"x"}` {
			t.Errorf("Text of the op %d: %s", op, got)
		}
	}
}

func TestP6_2Parse(t *testing.T) {
	wantParse(t, `{}`, nil, 2)
	wantParse(t, `{}}`, nil, 2)
	wantParse(t, `{}a="x"}`, nil, 2)
	wantParse(t, `{a="x"} and more`, []match.Rule{{"a", match.Is, "x"}}, 7)
	wantParse(t, `{a="x"}`, []match.Rule{{"a", match.Is, "x"}}, 7)
	wantParse(t, `{a!="x"}`, []match.Rule{{"a", match.Not, "x"}}, 8)
	wantParse(t, `{a^="x"}`, []match.Rule{{"a", match.Begins, "x"}}, 8)
	wantParse(t, `{a*="x"}`, []match.Rule{{"a", match.Holds, "x"}}, 8)
	wantParse(t, `{a="",b!="",c^="",d*=""}{`, []match.Rule{{"a", 1, ""}, {"b", 2, ""}, {"c", 3, ""}, {"d", 4, ""}}, 24)
	wantParse(t, `{b="x",a="x",a="y",a="y"}`, []match.Rule{{"b", 1, "x"}, {"a", 1, "x"}, {"a", 1, "y"}, {"a", 1, "y"}}, 25)
	wantParse(t, `{a="},b=\"",_*="\\"}`, []match.Rule{{"a", 1, `},b="`}, {"_", 4, `\`}}, 20)
	wantParse(t, `{a=" ~"}`+"\xff\n", []match.Rule{{"a", 1, " ~"}}, 8)
}

func TestP6_2ParseOfNoRules(t *testing.T) {
	for _, s := range []string{
		"", "{", "}", " {}", "{ }", "{,}", "x{}", `{a`, `{a=`, `{a="`, `{a="x`, `{a="x"`, `{a="x",`, `{a="x",}`, `{a="x",b}`,
		`{,a="x"}`, `{a="x",,b="y"}`, `{a="x"b="y"}`, `{a="x";b="y"}`, `{a="x", b="y"}`, `{ a="x"}`, `{a ="x"}`, `{a= "x"}`, `{a="x" }`,
		`{a~"x"}`, `{a"x"}`, `{a=="x"}`, `{a!"x"}`, `{a^"x"}`, `{a*"x"}`, `{a=!"x"}`, `{a!!="x"}`, `{a!=="x"}`, `{a~="x"}`, `{a=~"x"}`,
		`{a^!="x"}`, `{a*^="x"}`, `{a<"x"}`, `{="x"}`, `{!="x"}`, `{0="x"}`, `{a-="x"}`, `{"a"="x"}`, "{\u00e4=\"x\"}", `{a=x}`, `{a='x'}`,
		`{a="\n"}`, `{a="x\"}`, `{a="x"x"}`, "{a=\"\n\"}", "{a=\"\x7f\"}", "{a=\"\x1f\"}", "{a=\"\xff\"}", "{a=\"\u00e4\"}", `{{}}`, `{{a="x"}`,
		`[a="x"]`, `a="x"`, `a="x"}`, `{a="x"` + "\x00}",
	} {
		wantParse(t, s, nil, 0)
	}
}

func TestP6_2ParseLimits(t *testing.T) {
	long := strings.Repeat("v", maxValue)
	name := strings.Repeat("n", maxName)
	wantParse(t, "{"+name+`="`+long+`"}`, []match.Rule{{name, 1, long}}, maxName+maxValue+5)
	wantParse(t, "{n"+name+`="x"}`, nil, 0)
	wantParse(t, `{a="v`+long+`"}`, nil, 0)
	marks := strings.Repeat(`"`, maxValue)
	wantParse(t, `{a="`+strings.Repeat(`\"`, maxValue)+`"}`, []match.Rule{{"a", 1, marks}}, 2*maxValue+6)
	wantParse(t, `{a="`+strings.Repeat(`\"`, maxValue+1)+`"}`, nil, 0)
	text := match.Text(many(maxPairs))
	wantParse(t, text+",", many(maxPairs), len(text))
	wantParse(t, match.Text(many(maxPairs+1)), nil, 0)
	wantParse(t, match.Text(many(1000)), nil, 0)
	wantParse(t, text[:len(text)-1]+",", nil, 0)
	// What stands behind may be longer than any text of rules.
	wantParse(t, text+strings.Repeat(`x"=`, 1<<20), many(maxPairs), len(text))
}

const (
	name  = `([A-Za-z_][A-Za-z0-9_]{0,31})`
	sign  = `(=|!=|\^=|\*=)`
	value = `"((?:[ !#-\[\]-~]|\\["\\]){0,64})"`
)

var (
	rulesForm = regexp.MustCompile(`\A\{(?:` + name + sign + value + `(?:,` + name + sign + value + `)*)?\}`)
	rulePart  = regexp.MustCompile(`[{,]` + name + sign + value)
	unmark    = strings.NewReplacer(`\\`, `\`, `\"`, `"`)
)

// parseModel tells rules' texts by a regular expression.
func parseModel(t string) ([]match.Rule, int) {
	text := rulesForm.FindString(t)
	var l []match.Rule
	for _, m := range rulePart.FindAllStringSubmatch(text, -1) {
		op := 1 + slices.Index([]string{"=", "!=", "^=", "*="}, m[2])
		l = append(l, match.Rule{Name: m[1], Op: op, Value: unmark.Replace(m[3])})
	}
	if len(l) > maxPairs {
		return nil, 0
	}
	return l, len(text)
}

func TestP6_2ParseOfAllShortTexts(t *testing.T) {
	found := 0
	for _, s := range words(`{}=!",a`, 6) {
		want, used := parseModel(s)
		wantParse(t, s, want, used)
	}
	// Behind a beginning that is right there is more to meet.
	for _, s := range words(`}=!^*",a\`, 4) {
		for _, ahead := range []string{`{a`, `{a="`, `{a^="0"`, `{a!="0",b`, `{a*=""`, `{b="\`} {
			want, used := parseModel(ahead + s)
			wantParse(t, ahead+s, want, used)
			if used > 0 {
				found++
			}
		}
	}
	if found < 100 {
		t.Errorf("only %d texts of rules", found)
	}
}

func TestP6_2ParseOfTextsWithFaults(t *testing.T) {
	d := dice(2)
	good, bad := 0, 0
	for range 10000 {
		var l []match.Rule
		for range d.below(4) {
			l = append(l, match.Rule{Name: d.of("a_Z", 3), Op: 1 + d.below(4), Value: d.of("a \"\\,={}", 4)})
		}
		if d.below(8) == 0 {
			l = append(l, many(13+d.below(3))...)
		}
		b := []byte(match.Text(l))
		for range d.below(3) {
			b[d.below(len(b))] = "{}=!^*\",\\a0\x7f"[d.below(12)]
		}
		s := string(b) + d.of("{}=\",a", 5)
		want, used := parseModel(s)
		wantParse(t, s, want, used)
		if used > 0 {
			good++
		} else {
			bad++
		}
	}
	if good < 1000 || bad < 1000 {
		t.Errorf("%d texts of rules, %d others", good, bad)
	}
}

// rightRules are any right rules.
func (d *dice) rightRules() []match.Rule {
	var l []match.Rule
	for range d.below(maxPairs + 1) {
		r := match.Rule{Name: "n" + d.of("azAZ09_", maxName-1), Op: 1 + d.below(4), Value: d.of("az~ \"\\{}=,", maxValue)}
		if d.below(4) == 0 {
			r.Value = ""
		}
		l = append(l, r)
	}
	return l
}

func TestP6_2NoTextIsAnothersBeginning(t *testing.T) {
	d := dice(3)
	for range 300 {
		text := match.Text(d.rightRules())
		for n := range len(text) {
			if text[:n] != "" {
				wantParse(t, text[:n], nil, 0)
			}
		}
	}
}

func TestP6_3ReadBack(t *testing.T) {
	d := dice(4)
	for range 3000 {
		l := d.rightRules()
		if !match.Right(l) {
			t.Fatalf("Right(%#v): no", l)
		}
		text := match.Text(l)
		for _, behind := range []string{"", "}", ",", " ", `"`, "{}", `,a="x"}`, "\x00\xff", text, d.of("{}=\",a\\ ", 8)} {
			wantParse(t, text+behind, l, len(text))
		}
	}
}

func TestR3NothingHandedInIsChangedOrKept(t *testing.T) {
	room := append(many(3), match.Rule{Name: "behind", Op: 1})
	set := pairs("n", "v", "behind", "x")
	before, setBefore := slices.Clone(room), slices.Clone(set)
	match.Right(room[:3])
	match.All(room[:3], set[:1])
	match.Text(room[:3])
	if !slices.Equal(room, before) || !slices.Equal(set, setBefore) {
		t.Errorf("%#v, %q, were %#v, %q", room, set, before, setBefore)
	}
	x, _ := match.Parse(`{a="1"}`)
	y, _ := match.Parse(`{a="1"}`)
	x[0].Value = "other"
	if y[0].Value != "1" {
		t.Errorf("two answers share memory: %#v", y)
	}
}

// Every call ends, and none panics, whatever it is handed.
func TestR1AnyBytes(t *testing.T) {
	d := dice(5)
	for range 20000 {
		b := make([]byte, d.below(12))
		for i := range b {
			b[i] = byte(d.next() >> 40)
		}
		s := string(b)
		want, used := parseModel(s)
		wantParse(t, s, want, used)
		want, used = parseModel("{" + s)
		wantParse(t, "{"+s, want, used)
		l := []match.Rule{{s, int(d.next()), s}, {s, 1 + d.below(4), s}}
		match.Right(l)
		match.Text(l)
		match.All(l[1:], pairs(s, s, s, ""))
		if match.All(l, pairs(s, s)) {
			t.Fatalf("All(%#v): yes", l)
		}
	}
	for _, s := range []string{strings.Repeat(`\`, 1<<20), strings.Repeat(`"`, 1<<20), strings.Repeat("{", 1<<20), strings.Repeat("=", 1<<20), strings.Repeat("a", 1<<20)} {
		for _, ahead := range []string{"", "{", "{a", `{a="`} {
			wantParse(t, ahead+s, nil, 0)
		}
		match.Right([]match.Rule{{s, 1, s}})
		match.All([]match.Rule{{s, 4, s}}, pairs(s, s+s))
	}
}
