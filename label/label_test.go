package label_test

import (
	"regexp"
	"slices"
	"strings"
	"testing"

	"slackwater/api"
	"slackwater/label"
)

// The limits stand here as numbers, so that the tests hold them, too.
const (
	maxName  = 32
	maxValue = 64
	maxPairs = 16
	maxText  = 4096
)

// dice throws the same numbers in each run.
type dice uint64

func (d *dice) next() uint64 {
	*d = *d*6364136223846793005 + 1442695040888963407
	x := uint64(*d)
	return x ^ x>>29
}

func (d *dice) below(n int) int { return int(d.next() >> 8 % uint64(n)) }

// of is at most n bytes of these letters.
func (d *dice) of(letters string, n int) string {
	b := make([]byte, d.below(n+1))
	for i := range b {
		b[i] = letters[d.below(len(letters))]
	}
	return string(b)
}

func (d *dice) shuffle(l []api.Pair) []api.Pair {
	l = slices.Clone(l)
	for i := range l {
		j := d.below(i + 1)
		l[i], l[j] = l[j], l[i]
	}
	return l
}

// pairs are labels of names and values that stand by turns.
func pairs(words ...string) []api.Pair {
	var l []api.Pair
	for i := 0; i < len(words); i += 2 {
		l = append(l, api.Pair{Name: words[i], Value: words[i+1]})
	}
	return l
}

// many are n labels, whose names rise: A, B ..
func many(n int) []api.Pair {
	var l []api.Pair
	for i := range n {
		l = append(l, api.Pair{Name: string(rune('A' + i)), Value: "v"})
	}
	return l
}

// words are all texts of at most n of these letters.
func words(letters string, n int) []string {
	all := []string{""}
	for from := 0; n > 0; n-- {
		to := len(all)
		for _, w := range all[from:to] {
			for i := range len(letters) {
				all = append(all, w+letters[i:i+1])
			}
		}
		from = to
	}
	return all
}

// unmark takes the marks of what is written off.
var unmark = strings.NewReplacer(`\\`, `\`, `\"`, `"`)

func wantMake(t *testing.T, l []api.Pair, want []api.Pair, e api.Errno) {
	t.Helper()
	before := slices.Clone(l)
	got, f := label.Make(l)
	if !slices.Equal(got, want) || f != e {
		t.Errorf("Make of %q: %q, error %d, want %q, error %d", l, got, f, want, e)
	}
	if !slices.Equal(l, before) {
		t.Errorf("Make changed %q to %q", before, l)
	}
}

func wantParse(t *testing.T, s string, want []api.Pair, e api.Errno) {
	t.Helper()
	if got, f := label.Parse(s); !slices.Equal(got, want) || f != e {
		t.Errorf("Parse of %q: %q, error %d, want %q, error %d", s, got, f, want, e)
	}
}

func TestP5_1IsName(t *testing.T) {
	for _, s := range []string{
		"a", "z", "A", "Z", "_", "__", "_0", "a0", "Z9", "aZ_09", "le", "http_code",
		strings.Repeat("a", maxName), "_" + strings.Repeat("9", maxName-1),
	} {
		if !label.IsName(s) {
			t.Errorf("IsName(%q): no", s)
		}
	}
	for _, s := range []string{
		"", "0", "9a", "0_", " ", " a", "a ", "a b", "a-b", "a.b", "a:b", "a=", "a\"", "a\\", "a\x00", "a\n", "\xff", "a\xff",
		"\u00e4", "a\u00e4", "\u212a", "\u0661", "a\u0661", strings.Repeat("a", maxName+1), strings.Repeat("a", 10000),
	} {
		if label.IsName(s) {
			t.Errorf("IsName(%q): yes", s)
		}
	}
}

func TestP5_1IsNameOfEachByte(t *testing.T) {
	const letters = "abcdefghijklmnopqrstuvwxyzABCDEFGHIJKLMNOPQRSTUVWXYZ_"
	for c := range 256 {
		s := string([]byte{byte(c)})
		first := strings.Contains(letters, s)
		later := first || strings.Contains("0123456789", s)
		if got := label.IsName(s); got != first {
			t.Errorf("IsName(%q): %t", s, got)
		}
		for _, w := range []string{"a" + s, "a" + s + "b"} {
			if got := label.IsName(w); got != later {
				t.Errorf("IsName(%q): %t", w, got)
			}
		}
	}
}

func TestP5_1IsValueOfEachByte(t *testing.T) {
	for c := range 256 {
		s := string([]byte{byte(c)})
		want := c >= 32 && c <= 126
		for _, w := range []string{s, "a" + s, s + "a", strings.Repeat(s, maxValue)} {
			if got := label.IsValue(w); got != want {
				t.Errorf("IsValue(%q): %t", w, got)
			}
		}
	}
}

func TestP5_1IsValueLength(t *testing.T) {
	for n, want := range map[int]bool{0: false, 1: true, 2: true, maxValue - 1: true, maxValue: true, maxValue + 1: false, 10000: false} {
		if got := label.IsValue(strings.Repeat("~", n)); got != want {
			t.Errorf("IsValue of %d bytes: %t", n, got)
		}
	}
	// Bytes count, not letters.
	if label.IsValue("\u00e4") {
		t.Error("IsValue of a letter beyond 126: yes")
	}
}

func TestP5_1Right(t *testing.T) {
	for _, l := range [][]api.Pair{
		nil, {}, pairs("a", "1"), pairs("a", "1", "b", "1"), pairs("A", "1", "_", " ", "a", "~"),
		pairs("a", "\"", "aa", "\\", "b", "="), pairs("a", "1", "a0", "1", "a_", "1", "aa", "1"), many(maxPairs),
	} {
		if !label.Right(l) {
			t.Errorf("Right(%q): no", l)
		}
	}
	for _, l := range [][]api.Pair{
		pairs("", "1"), pairs("a", ""), pairs("0", "1"), pairs("a", "\x1f"), pairs("a", "\x7f"), pairs("", ""),
		pairs("b", "1", "a", "1"), pairs("a", "1", "a", "2"), pairs("a", "1", "a", "1"), pairs("a", "1", "B", "1"),
		pairs("a", "1", "b", "1", "a", "1"), pairs("aa", "1", "a", "1"), pairs("a", "1", "b", ""), pairs("a", "1", "b-", "1"),
		many(maxPairs + 1), pairs(strings.Repeat("a", maxName+1), "1"), pairs("a", strings.Repeat("1", maxValue+1)),
	} {
		if label.Right(l) {
			t.Errorf("Right(%q): yes", l)
		}
	}
}

func TestP5_1Make(t *testing.T) {
	wantMake(t, nil, nil, api.OK)
	wantMake(t, []api.Pair{}, nil, api.OK)
	wantMake(t, pairs("b", "1", "a", "2"), pairs("a", "2", "b", "1"), api.OK)
	wantMake(t, pairs("a", "2", "b", "1"), pairs("a", "2", "b", "1"), api.OK)
	wantMake(t, pairs("a", "1", "_", "1", "Z", "1", "aa", "1", "a0", "1"), pairs("Z", "1", "_", "1", "a", "1", "a0", "1", "aa", "1"), api.OK)
	d := dice(1)
	for range 200 {
		l := many(d.below(maxPairs + 1))
		wantMake(t, d.shuffle(l), l, api.OK)
	}
}

func TestP5_1MakeErrorsInTheirOrder(t *testing.T) {
	wantMake(t, pairs("a", "1", "a", "2"), nil, api.ErrTwice)
	wantMake(t, pairs("a", "1", "a", "1"), nil, api.ErrTwice)
	wantMake(t, pairs("b", "1", "a", "1", "b", "2"), nil, api.ErrTwice)
	wantMake(t, pairs("c", "1", "a", "1", "b", "2", "a", "3"), nil, api.ErrTwice)
	wantMake(t, pairs("", "", "", ""), nil, api.ErrTwice)
	wantMake(t, pairs("0", "1", "0", "1"), nil, api.ErrTwice)
	wantMake(t, pairs("a", "", "b", "\x00", "a", "1"), nil, api.ErrTwice)
	wantMake(t, append(many(maxPairs+1), many(1)...), nil, api.ErrTwice)
	wantMake(t, pairs("", "1"), nil, api.ErrLabel)
	wantMake(t, pairs("a", ""), nil, api.ErrLabel)
	wantMake(t, pairs("b", "1", "a", ""), nil, api.ErrLabel)
	wantMake(t, pairs("b", "1", "1", "1"), nil, api.ErrLabel)
	wantMake(t, pairs("a", "1", "b", "\xff"), nil, api.ErrLabel)
	wantMake(t, pairs("a", strings.Repeat("1", maxValue+1)), nil, api.ErrLabel)
	wantMake(t, many(maxPairs+1), nil, api.ErrLabel)
}

func TestP5_1MakeIsASetOrAnError(t *testing.T) {
	d := dice(2)
	for range 5000 {
		var l []api.Pair
		for range d.below(5) {
			l = append(l, api.Pair{Name: d.of("abB0_-", 2), Value: d.of("a\"\x7f", 2)})
		}
		twice := false
		for i, p := range l {
			twice = twice || slices.ContainsFunc(l[:i], func(q api.Pair) bool { return q.Name == p.Name })
		}
		want := slices.Clone(l)
		slices.SortFunc(want, func(a, b api.Pair) int { return strings.Compare(a.Name, b.Name) })
		switch {
		case twice:
			wantMake(t, l, nil, api.ErrTwice)
		case !label.Right(want):
			wantMake(t, l, nil, api.ErrLabel)
		default:
			wantMake(t, l, want, api.OK)
		}
	}
}

func TestP5_1Get(t *testing.T) {
	l := pairs("b", "1", "a", "2", "a", "3", "", "4", "0", "", "0", "5")
	for name, want := range map[string]string{"b": "1", "a": "2", "": "4", "0": "", "c": "", "B": "", "aa": "", "ab": ""} {
		if got := label.Get(l, name); got != want {
			t.Errorf("Get of %q: %q, want %q", name, got, want)
		}
		if got := label.Get(nil, name) + label.Get([]api.Pair{}, name); got != "" {
			t.Errorf("Get of %q, of no labels: %q", name, got)
		}
	}
}

func TestP5_2Quote(t *testing.T) {
	for s, want := range map[string]string{
		"":               `""`,
		"a":              `"a"`,
		`"`:              `"\""`,
		`\`:              `"\\"`,
		`x"y`:            `"x\"y"`,
		`\"`:             `"\\\""`,
		`a\nb`:           `"a\\nb"`,
		"a\nb":           "\"a\nb\"",
		"\x00\xff\u00e4": "\"\x00\xff\u00e4\"",
		"{a=1,b=2}":      `"{a=1,b=2}"`,
	} {
		if got := label.Quote(s); got != want {
			t.Errorf("Quote(%q): %s, want %s", s, got, want)
		}
	}
}

func TestP5_2Unquote(t *testing.T) {
	for _, c := range []struct {
		t, want string
		used    int
	}{
		{`""`, "", 2},
		{`"a"`, "a", 3},
		{`"a" and more`, "a", 3},
		{`"a"b"`, "a", 3},
		{`"a""`, "a", 3},
		{`"\""`, `"`, 4},
		{`"\\"`, `\`, 4},
		{`"\\""`, `\`, 4},
		{`"\\\""`, `\"`, 6},
		{`"\"\\a"`, `"\a`, 7},
		{"\"\x00\n\xff\u00e4\"", "\x00\n\xff\u00e4", 7},
		{`"` + strings.Repeat("a", 100000) + `"`, strings.Repeat("a", 100000), 100002},
		{"", "", 0},
		{`"`, "", 0},
		{`a`, "", 0},
		{`a"b"`, "", 0},
		{` "a"`, "", 0},
		{`\"a"`, "", 0},
		{`"a`, "", 0},
		{`"a\`, "", 0},
		{`"a\"`, "", 0},
		{`"a\"b`, "", 0},
		{`"\n"`, "", 0},
		{`"ab\c"`, "", 0},
		{`"\ "`, "", 0},
		{`"\\\"`, "", 0},
		{`'a'`, "", 0},
		{"`a`", "", 0},
	} {
		if got, used := label.Unquote(c.t); got != c.want || used != c.used {
			t.Errorf("Unquote(%.40q): %.40q, %d, want %.40q, %d", c.t, got, used, c.want, c.used)
		}
	}
}

func TestP5_2UnquoteTakesQuoteOffAgain(t *testing.T) {
	d := dice(3)
	for range 5000 {
		b := make([]byte, d.below(20))
		for i := range b {
			b[i] = "\"\\ab\x00\xff"[d.below(6)]
		}
		s, tail := string(b), d.of("\"\\a", 5)
		written := label.Quote(s)
		if got, used := label.Unquote(written + tail); got != s || used != len(written) {
			t.Fatalf("Unquote(%q): %q, %d, want %q, %d", written+tail, got, used, s, len(written))
		}
		// A value as it is written is what stands ahead of its end alone.
		for n := range len(written) {
			if got, used := label.Unquote(written[:n]); got != "" || used != 0 {
				t.Fatalf("Unquote(%q): %q, %d", written[:n], got, used)
			}
		}
	}
}

func TestP5_2UnquoteOfAllShortTexts(t *testing.T) {
	form := regexp.MustCompile(`^"((?:[^"\\]|\\["\\])*)"`)
	for _, s := range words(`"\na`, 6) {
		want, used := "", 0
		if m := form.FindStringSubmatch(s); m != nil {
			want, used = unmark.Replace(m[1]), len(m[0])
		}
		if got, n := label.Unquote(s); got != want || n != used {
			t.Fatalf("Unquote(%q): %q, %d, want %q, %d", s, got, n, want, used)
		}
	}
}

func TestP5_2Text(t *testing.T) {
	for _, c := range []struct {
		l    []api.Pair
		want string
	}{
		{nil, "{}"},
		{[]api.Pair{}, "{}"},
		{pairs("a", "1"), `{a="1"}`},
		{pairs("a", "2", "b", "1"), `{a="2",b="1"}`},
		{pairs("a", `x"y`, "b", `\`), `{a="x\"y",b="\\"}`},
		{pairs("b", "1", "a", ""), `{b="1",a=""}`},
		{pairs("", "", "", ""), `{="",=""}`},
		{pairs("0,=\"", "\n"), "{0,=\"=\"\n\"}"},
		{many(17), "{" + strings.Join(strings.Split("ABCDEFGHIJKLMNOPQ", ""), `="v",`) + `="v"}`},
	} {
		before := slices.Clone(c.l)
		if got := label.Text(c.l); got != c.want {
			t.Errorf("Text(%q): %s, want %s", c.l, got, c.want)
		}
		if !slices.Equal(c.l, before) {
			t.Errorf("Text changed %q to %q", before, c.l)
		}
	}
}

func TestP5_2Parse(t *testing.T) {
	wantParse(t, `{}`, nil, api.OK)
	wantParse(t, `{a="1"}`, pairs("a", "1"), api.OK)
	wantParse(t, `{a="2",b="1"}`, pairs("a", "2", "b", "1"), api.OK)
	wantParse(t, `{a="x\"y",b="\\"}`, pairs("a", `x"y`, "b", `\`), api.OK)
	wantParse(t, `{a="},b=\"",c=" "}`, pairs("a", `},b="`, "c", " "), api.OK)
	wantParse(t, label.Text(many(maxPairs)), many(maxPairs), api.OK)
}

func TestP5_2ParseErrForm(t *testing.T) {
	for _, s := range []string{
		"", "{", "}", "}{", "{}}", "{{}", " {}", "{} ", "{}\n", "{}x", "{,}", "{ }", "x", `"`, `""`,
		`a="1"`, `{a="1"`, `{a="1",`, `a="1"}`, `{a="2",}`, `{,a="2"`, `{a="1"}}`, `{a="1"},`, `{a="1"} `, `{a="1"}{}`,
		`{a}`, `{a=}`, `{a=1}`, `{a='1'}`, `{a="}`, `{a="1}`, `{a=1"}`, `{a="1"b="2"}`, `{a="1" ,b="2"}`, `{a="1";b="2"}`,
		`{a ="1", b}`, `{a= "1"}`, `{a=="1"}`, `{a!="1"}x`, `{a="\n"}`, `{a="\"}`, `{a="1\"}`, `{a="1"2"}`, `{a="1",b}`,
		`{a="1",b=}`, `{a="1",,}`, `{a="1"}b="2"}`, `{a="1",b="2}`, `{a:"1"}`, `[a="1"]`, `{"a"}`, `{"a"="1"`,
	} {
		wantParse(t, s, nil, api.ErrForm)
	}
}

func TestP5_2ParseErrLabel(t *testing.T) {
	for _, s := range []string{
		`{b="1",a="2"}`, `{a="1",a="2"}`, `{a="1",a="1"}`, `{1="a"}`, `{="a"}`, `{=""}`, `{a=""}`, `{a="1",b=""}`,
		`{ a="1"}`, `{a ="1"}`, `{a="1", b="2"}`, `{a="1",,b="2"}`, `{,a="2"}`, `{a!="1"}`, `{}="1"}`, `{}a="1"}`, `{}{a="1"}`,
		`{{a="1"}`, `{"a"="1"}`, `{a,b="1"}`, "{a=\"\n\"}", "{a=\"\x7f\"}", "{a=\"\xff\"}", "{a=\"\u00e4\"}", "{\u00e4=\"1\"}",
		"{a\n=\"1\"}", "{\x00=\"1\"}", `{a\="1"}`, `{` + strings.Repeat("a", maxName+1) + `="1"}`,
		`{a="` + strings.Repeat("1", maxValue+1) + `"}`, label.Text(many(maxPairs + 1)),
	} {
		wantParse(t, s, nil, api.ErrLabel)
	}
	// The form goes ahead of the labels, up to the text's end.
	for _, s := range []string{`{b="1",a="2",}`, `{1="a"`, `{="",`, `{a="",b=}`, label.Text(many(maxPairs+1)) + "x"} {
		wantParse(t, s, nil, api.ErrForm)
	}
}

func TestP5_2ParseLongTexts(t *testing.T) {
	long := func(n int) string { return `{a="` + strings.Repeat("1", n-6) + `"}` }
	wantParse(t, long(maxText-1), nil, api.ErrLabel)
	wantParse(t, long(maxText), nil, api.ErrLabel)
	wantParse(t, long(maxText+1), nil, api.ErrForm)
	wantParse(t, long(1<<20), nil, api.ErrForm)
	// Of marks only their meaning counts for a value's length.
	value := strings.Repeat(`"`, maxValue)
	wantParse(t, `{a="`+strings.Repeat(`\"`, maxValue)+`"}`, pairs("a", value), api.OK)
	wantParse(t, `{a="`+strings.Repeat(`\"`, maxValue+1)+`"}`, nil, api.ErrLabel)
	var widest []api.Pair
	for i := range maxPairs {
		name := strings.Repeat("n", maxName-1) + string(rune('a'+i))
		widest = append(widest, api.Pair{Name: name, Value: value})
	}
	wantParse(t, label.Text(widest), widest, api.OK)
}

const part = `([^=]*)="((?:[^"\\]|\\["\\])*)"`

var (
	setForm = regexp.MustCompile(`\A(?:\{\}|\{` + part + `(?:,` + part + `)*\})\z`)
	setPart = regexp.MustCompile(`[{,]` + part)
)

// parseModel tells a text's form by a regular expression.
func parseModel(t string) ([]api.Pair, api.Errno) {
	if len(t) > maxText || !setForm.MatchString(t) {
		return nil, api.ErrForm
	}
	var l []api.Pair
	for _, m := range setPart.FindAllStringSubmatch(t, -1) {
		l = append(l, api.Pair{Name: m[1], Value: unmark.Replace(m[2])})
	}
	if !label.Right(l) {
		return nil, api.ErrLabel
	}
	return l, api.OK
}

func TestP5_2ParseOfAllShortTexts(t *testing.T) {
	kinds := map[api.Errno]int{}
	for _, s := range words(`{}=",a`, 6) {
		want, e := parseModel(s)
		wantParse(t, s, want, e)
		kinds[e]++
	}
	// Behind a beginning that is right there is more to meet.
	for _, s := range words(`}=",a\`, 4) {
		for _, ahead := range []string{`{a=`, `{a="`, `{a="1"`, `{a="1",`, `{a="1",b="2"`, `{b="1\"`} {
			want, e := parseModel(ahead + s)
			wantParse(t, ahead+s, want, e)
			kinds[e]++
		}
	}
	for _, e := range []api.Errno{api.OK, api.ErrForm, api.ErrLabel} {
		if kinds[e] == 0 {
			t.Errorf("no text with the error %d", e)
		}
	}
}

func TestP5_2ParseOfTextsWithFaults(t *testing.T) {
	d := dice(4)
	kinds := map[api.Errno]int{}
	for range 5000 {
		var l []api.Pair
		for range d.below(4) {
			l = append(l, api.Pair{Name: d.of("abcdefg_", 2), Value: d.of("ab\"\\,={} ", 4)})
		}
		slices.SortFunc(l, func(a, b api.Pair) int { return strings.Compare(a.Name, b.Name) })
		b := []byte(label.Text(l))
		for range d.below(2) {
			b[d.below(len(b))] = "{}=\",\\a\x7f"[d.below(8)]
		}
		want, e := parseModel(string(b))
		wantParse(t, string(b), want, e)
		kinds[e]++
	}
	for _, e := range []api.Errno{api.OK, api.ErrForm, api.ErrLabel} {
		if kinds[e] < 100 {
			t.Errorf("only %d texts with the error %d", kinds[e], e)
		}
	}
}

func TestP5_2ParseTakesTextBack(t *testing.T) {
	d := dice(5)
	for range 2000 {
		var l []api.Pair
		for _, p := range many(d.below(maxPairs + 1)) {
			l = append(l, api.Pair{Name: p.Name + d.of("az_09", 5), Value: d.of("a~ \"\\", 6) + "."})
		}
		wantParse(t, label.Text(l), l, api.OK)
	}
}

func TestP5_3Compare(t *testing.T) {
	rising := [][]api.Pair{
		nil,
		pairs("", ""),
		pairs("", "", "", ""),
		pairs("", "z"),
		pairs("A", "1"),
		pairs("a", ""),
		pairs("a", "1"),
		pairs("a", "1", "a", "0"),
		pairs("a", "1", "b", "1"),
		pairs("a", "1", "b", "1", "c", "1"),
		pairs("a", "1", "b", "2"),
		pairs("a", "1", "c", "0"),
		pairs("a", "10"),
		pairs("a", "2"),
		pairs("a", "A"),
		pairs("a", "a"),
		pairs("a", "\x7f"),
		pairs("a", "\u00e4"),
		pairs("a", "\xff"),
		pairs("aa", "0"),
		pairs("b", "0"),
		pairs("b", "0", "a", "0"),
		pairs("\xff", ""),
	}
	for i, a := range rising {
		for j, b := range rising {
			want := 0
			switch {
			case i < j:
				want = -1
			case i > j:
				want = 1
			}
			if got := label.Compare(a, b); got != want {
				t.Errorf("Compare(%q, %q): %d, want %d", a, b, got, want)
			}
			if got := label.Compare(slices.Clone(a), slices.Clone(b)); got != want {
				t.Errorf("Compare of copies of %q, %q: %d, want %d", a, b, got, want)
			}
		}
	}
	if a, b := label.Compare(nil, []api.Pair{}), label.Compare([]api.Pair{}, nil); a != 0 || b != 0 {
		t.Errorf("Compare of nil and an empty list: %d, %d", a, b)
	}
}

// compareModel goes from label to label.
func compareModel(a, b []api.Pair) int {
	for i := 0; ; i++ {
		switch {
		case i == len(a) && i == len(b):
			return 0
		case i == len(a):
			return -1
		case i == len(b):
			return 1
		case a[i].Name < b[i].Name:
			return -1
		case a[i].Name > b[i].Name:
			return 1
		case a[i].Value < b[i].Value:
			return -1
		case a[i].Value > b[i].Value:
			return 1
		}
	}
}

func TestP5_3CompareOfAnyLabels(t *testing.T) {
	d := dice(6)
	labels := func() []api.Pair {
		var l []api.Pair
		for range d.below(4) {
			l = append(l, api.Pair{Name: d.of("ab", 1), Value: d.of("ab\xff", 2)})
		}
		return l
	}
	for range 20000 {
		a, b := labels(), labels()
		if got, want := label.Compare(a, b), compareModel(a, b); got != want {
			t.Fatalf("Compare(%q, %q): %d, want %d", a, b, got, want)
		}
	}
}

func TestR3NothingHandedInIsChangedOrKept(t *testing.T) {
	room := pairs("b", "1", "a", "2", "c", "3", "behind", "4")
	before := slices.Clone(room)
	got, _ := label.Make(room[:3])
	label.Text(room[:3])
	label.Get(room[:3], "a")
	label.Compare(room[:3], room[1:])
	label.Right(room[:3])
	full := got[:cap(got)]
	for i := range full {
		full[i] = api.Pair{Name: "x", Value: "x"}
	}
	if !slices.Equal(room, before) {
		t.Errorf("%q, was %q", room, before)
	}
	sorted := pairs("a", "1", "b", "2")
	set, _ := label.Make(sorted)
	sorted[0].Value = "other"
	if set[0].Value != "1" {
		t.Errorf("Make keeps what was handed in: %q", set)
	}
	x, _ := label.Parse(`{a="1"}`)
	y, _ := label.Parse(`{a="1"}`)
	x[0].Value = "other"
	if y[0].Value != "1" {
		t.Errorf("two answers share memory: %q", y)
	}
}

// Every call ends, and none panics, whatever it is handed.
func TestR1AnyBytes(t *testing.T) {
	d := dice(7)
	for range 20000 {
		b := make([]byte, d.below(12))
		for i := range b {
			b[i] = byte(d.next() >> 40)
		}
		s := string(b)
		label.IsName(s)
		label.IsValue(s)
		want, e := parseModel(s)
		wantParse(t, s, want, e)
		if got, used := label.Unquote(label.Quote(s)); got != s || used < len(s)+2 {
			t.Fatalf("Unquote(Quote(%q)): %q, %d", s, got, used)
		}
		if got, used := label.Unquote(s); used == 0 && got != "" || used > len(s) {
			t.Fatalf("Unquote(%q): %q, %d", s, got, used)
		}
		l := []api.Pair{{Name: s, Value: s}, {Name: s + "a"}}
		label.Text(l)
		label.Get(l, s)
		label.Right(l)
		label.Make(l)
	}
	for _, s := range []string{strings.Repeat(`\`, 1<<20), strings.Repeat(`"`, 1<<20), strings.Repeat("{", 1<<20), strings.Repeat("=", 1<<20)} {
		label.Unquote(`"` + s)
		label.Parse("{" + s)
		label.IsName(s)
		label.IsValue(s)
		label.Make(pairs(s, s, s, s))
	}
}
