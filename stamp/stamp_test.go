package stamp_test

import (
	"bytes"
	"math"
	"math/big"
	"regexp"
	"strings"
	"testing"

	"slackwater/api"
	"slackwater/stamp"
)

// The limits stand here as numbers, so that the tests hold them, too.
const (
	maxWall = 1 << 62
	maxPart = 1<<32 - 1
)

func at(wall int64, tick, mark uint32) api.Stamp {
	return api.Stamp{Wall: wall, Tick: tick, Mark: mark}
}

func rightWalls() []int64 {
	return []int64{0, 1, 2, 5, 255, 256, 1 << 31, maxPart, maxPart + 1, 1 << 40, maxWall - 1, maxWall}
}

func wrongWalls() []int64 {
	return []int64{math.MinInt64, math.MinInt64 + 1, -maxWall, -maxPart - 1, -2, -1, maxWall + 1, math.MaxInt64 - 1, math.MaxInt64}
}

func smallParts() []uint32 {
	return []uint32{0, 1, 7, 255, 256, 1<<31 - 1, 1 << 31, maxPart - 1, maxPart}
}

// stampsOf are the stamps of the walls, in order if the walls rise.
func stampsOf(walls []int64) []api.Stamp {
	var l []api.Stamp
	for _, w := range walls {
		for _, t := range smallParts() {
			for _, m := range smallParts() {
				l = append(l, at(w, t, m))
			}
		}
	}
	return l
}

func allWalls() []int64 {
	w := wrongWalls()
	all := append([]int64{}, w[:6]...)
	all = append(all, rightWalls()...)
	return append(all, w[6:]...)
}

func TestP1_1Right(t *testing.T) {
	for _, s := range stampsOf(rightWalls()) {
		if !stamp.Right(s) {
			t.Errorf("Right(%v): false", s)
		}
	}
	for _, s := range stampsOf(wrongWalls()) {
		if stamp.Right(s) {
			t.Errorf("Right(%v): true", s)
		}
	}
	if !stamp.Right(api.Stamp{}) {
		t.Error("the zero stamp isn't right")
	}
}

func TestP1_1Compare(t *testing.T) {
	l := stampsOf(allWalls())
	for i, a := range l {
		for j, b := range l {
			want := 0
			if i < j {
				want = -1
			} else if i > j {
				want = 1
			}
			if got := stamp.Compare(a, b); got != want {
				t.Fatalf("Compare(%v, %v): %d, want %d", a, b, got, want)
			}
		}
	}
}

func TestP1_1CompareWeighsTheWallFirst(t *testing.T) {
	for _, c := range []struct {
		a, b api.Stamp
		want int
	}{
		{at(1, 9, 9), at(2, 0, 0), -1},
		{at(2, 0, 0), at(1, 9, 9), 1},
		{at(1, 1, 9), at(1, 2, 0), -1},
		{at(1, 2, 0), at(1, 1, 9), 1},
		{at(1, 1, 1), at(1, 1, 2), -1},
		{at(1, 1, 2), at(1, 1, 1), 1},
		{at(1, 1, 1), at(1, 1, 1), 0},
		{at(math.MinInt64, 0, 0), at(math.MaxInt64, 0, 0), -1},
		{at(math.MaxInt64, 0, 0), at(math.MinInt64, 0, 0), 1},
		{at(0, 0, 0), at(0, maxPart, 0), -1},
		{at(0, 0, 0), at(0, 0, maxPart), -1},
	} {
		if got := stamp.Compare(c.a, c.b); got != c.want {
			t.Errorf("Compare(%v, %v): %d, want %d", c.a, c.b, got, c.want)
		}
	}
}

func TestP1_2Next(t *testing.T) {
	for _, c := range []struct{ s, want api.Stamp }{
		{at(5, 0, 7), at(5, 1, 0)},
		{at(5, maxPart, 0), at(6, 0, 0)},
		{at(5, maxPart, maxPart), at(6, 0, 0)},
		{at(0, 0, 0), at(0, 1, 0)},
		{at(0, maxPart, 0), at(1, 0, 0)},
		{at(5, maxPart-1, 3), at(5, maxPart, 0)},
		{at(5, 1<<31-1, 3), at(5, 1<<31, 0)},
		{at(maxWall, 0, 0), at(maxWall, 1, 0)},
		{at(maxWall, maxPart-1, maxPart), at(maxWall, maxPart, 0)},
		{at(maxWall-1, maxPart, 0), at(maxWall, 0, 0)},
	} {
		if got, e := stamp.Next(c.s); e != api.OK || got != c.want {
			t.Errorf("Next(%v): %v, %d, want %v", c.s, got, e, c.want)
		}
	}
}

// position is a stamp's place among all, when its Mark is left out.
func position(s api.Stamp) *big.Int {
	p := new(big.Int).Lsh(big.NewInt(s.Wall), 32)
	return p.Add(p, new(big.Int).SetUint64(uint64(s.Tick)))
}

func TestP1_2NextIsTheLeast(t *testing.T) {
	for _, s := range stampsOf(rightWalls()) {
		if s.Wall == maxWall && s.Tick == maxPart {
			continue
		}
		n, e := stamp.Next(s)
		if e != api.OK || n.Mark != 0 || !stamp.Right(n) {
			t.Fatalf("Next(%v): %v, %d", s, n, e)
		}
		if d := new(big.Int).Sub(position(n), position(s)); d.Cmp(big.NewInt(1)) != 0 {
			t.Fatalf("Next(%v): %v is %v further on, want 1", s, n, d)
		}
		if stamp.Compare(n, stamp.Last(s)) != 1 {
			t.Fatalf("Next(%v): %v doesn't stand behind %v", s, n, stamp.Last(s))
		}
	}
}

func TestP1_2NextErrors(t *testing.T) {
	for _, m := range smallParts() {
		if n, e := stamp.Next(at(maxWall, maxPart, m)); e != api.ErrOver || n != (api.Stamp{}) {
			t.Errorf("Next of the greatest tick, mark %d: %v, %d, want ErrOver", m, n, e)
		}
	}
	for _, s := range stampsOf(wrongWalls()) {
		if n, e := stamp.Next(s); e != api.ErrArg || n != (api.Stamp{}) {
			t.Errorf("Next(%v): %v, %d, want ErrArg", s, n, e)
		}
	}
}

func TestP1_2Last(t *testing.T) {
	for _, s := range stampsOf(allWalls()) {
		if got, want := stamp.Last(s), at(s.Wall, s.Tick, maxPart); got != want {
			t.Errorf("Last(%v): %v, want %v", s, got, want)
		}
	}
}

func TestP1_3Put(t *testing.T) {
	for _, c := range []struct {
		s    api.Stamp
		want []byte
	}{
		{at(0, 0, 0), []byte{0, 0, 0, 0, 0, 0, 0, 0, 0, 0, 0, 0, 0, 0, 0, 0}},
		{at(0x0102030405060708, 0x090a0b0c, 0x0d0e0f10), []byte{1, 2, 3, 4, 5, 6, 7, 8, 9, 10, 11, 12, 13, 14, 15, 16}},
		{at(maxWall, maxPart, 1), []byte{0x40, 0, 0, 0, 0, 0, 0, 0, 255, 255, 255, 255, 0, 0, 0, 1}},
		{at(1, 0x80000000, maxPart), []byte{0, 0, 0, 0, 0, 0, 0, 1, 0x80, 0, 0, 0, 255, 255, 255, 255}},
		{at(-1, 0, 0), []byte{255, 255, 255, 255, 255, 255, 255, 255, 0, 0, 0, 0, 0, 0, 0, 0}},
		{at(-2, 2, 3), []byte{255, 255, 255, 255, 255, 255, 255, 254, 0, 0, 0, 2, 0, 0, 0, 3}},
		{at(math.MinInt64, 0, 1), []byte{0x80, 0, 0, 0, 0, 0, 0, 0, 0, 0, 0, 0, 0, 0, 0, 1}},
		{at(math.MaxInt64, 256, 0), []byte{0x7f, 255, 255, 255, 255, 255, 255, 255, 0, 0, 1, 0, 0, 0, 0, 0}},
	} {
		if got := stamp.Put(c.s); !bytes.Equal(got, c.want) {
			t.Errorf("Put(%v): %x, want %x", c.s, got, c.want)
		}
	}
}

func TestP1_3PutStandsInOrder(t *testing.T) {
	l := stampsOf(rightWalls())
	for i := 1; i < len(l); i++ {
		if bytes.Compare(stamp.Put(l[i-1]), stamp.Put(l[i])) != -1 {
			t.Errorf("Put(%v) doesn't stand ahead of Put(%v)", l[i-1], l[i])
		}
	}
}

func TestP1_3PutIsNewMemory(t *testing.T) {
	s := at(5, 6, 7)
	a := stamp.Put(s)
	b := stamp.Put(s)
	want := bytes.Clone(b)
	for i := range a[:cap(a)] {
		a[:cap(a)][i] = 0xee
	}
	if !bytes.Equal(b, want) || !bytes.Equal(stamp.Put(s), want) {
		t.Error("two answers of Put share memory")
	}
}

func TestP1_3Get(t *testing.T) {
	for _, s := range stampsOf(rightWalls()) {
		if got, e := stamp.Get(stamp.Put(s)); e != api.OK || got != s {
			t.Errorf("Get(Put(%v)): %v, %d", s, got, e)
		}
	}
	b := []byte{1, 2, 3, 4, 5, 6, 7, 8, 9, 10, 11, 12, 13, 14, 15, 16}
	want := at(0x0102030405060708, 0x090a0b0c, 0x0d0e0f10)
	if got, e := stamp.Get(b); e != api.OK || got != want {
		t.Errorf("Get(%x): %v, %d, want %v", b, got, e, want)
	}
}

func TestP1_3GetOfOtherLengths(t *testing.T) {
	right := bytes.Repeat([]byte{1}, 64)
	wrong := bytes.Repeat([]byte{255}, 64)
	for _, long := range [][]byte{right, wrong} {
		for n := range len(long) + 1 {
			if n == 16 {
				continue
			}
			if s, e := stamp.Get(long[:n]); e != api.ErrShort || s != (api.Stamp{}) {
				t.Errorf("Get of %d bytes: %v, %d, want ErrShort", n, s, e)
			}
		}
	}
	if s, e := stamp.Get(nil); e != api.ErrShort || s != (api.Stamp{}) {
		t.Errorf("Get(nil): %v, %d, want ErrShort", s, e)
	}
}

func TestP1_3GetOfNoRightStamp(t *testing.T) {
	for _, s := range stampsOf(wrongWalls()) {
		if got, e := stamp.Get(stamp.Put(s)); e != api.ErrForm || got != (api.Stamp{}) {
			t.Errorf("Get(Put(%v)): %v, %d, want ErrForm", s, got, e)
		}
	}
	for _, first := range []byte{0x41, 0x7f, 0x80, 0xc0, 0xff} {
		b := make([]byte, 16)
		b[0] = first
		if got, e := stamp.Get(b); e != api.ErrForm || got != (api.Stamp{}) {
			t.Errorf("Get(%x): %v, %d, want ErrForm", b, got, e)
		}
	}
}

func TestP1_3GetLeavesWhatItIsHanded(t *testing.T) {
	b := bytes.Repeat([]byte{7}, 32)
	for _, n := range []int{0, 15, 16, 17} {
		stamp.Get(b[:n])
		if !bytes.Equal(b, bytes.Repeat([]byte{7}, 32)) {
			t.Fatalf("Get of %d bytes changed them, or those behind", n)
		}
	}
}

func TestP1_4Text(t *testing.T) {
	for _, c := range []struct {
		s    api.Stamp
		want string
	}{
		{at(0, 0, 0), "0.0.0"},
		{at(5, 0, 7), "5.0.7"},
		{at(10, 20, 30), "10.20.30"},
		{at(maxWall, maxPart, maxPart), "4611686018427387904.4294967295.4294967295"},
		{at(1, 1<<31, 1<<31), "1.2147483648.2147483648"},
		{at(-1, 0, 0), "-1.0.0"},
		{at(maxWall+1, 1, 2), "4611686018427387905.1.2"},
		{at(math.MaxInt64, 1, 2), "9223372036854775807.1.2"},
		{at(math.MinInt64, 1, 2), "-9223372036854775808.1.2"},
	} {
		if got := stamp.Text(c.s); got != c.want {
			t.Errorf("Text(%v): %q, want %q", c.s, got, c.want)
		}
	}
}

func TestP1_4Parse(t *testing.T) {
	for _, s := range stampsOf(rightWalls()) {
		if got, e := stamp.Parse(stamp.Text(s)); e != api.OK || got != s {
			t.Errorf("Parse(Text(%v)): %v, %d", s, got, e)
		}
	}
	if got, e := stamp.Parse("5.0.7"); e != api.OK || got != at(5, 0, 7) {
		t.Errorf("Parse(5.0.7): %v, %d", got, e)
	}
}

func refuse(t *testing.T, text string) {
	t.Helper()
	if got, e := stamp.Parse(text); e != api.ErrForm || got != (api.Stamp{}) {
		t.Errorf("Parse(%.60q): %v, %d, want ErrForm", text, got, e)
	}
}

func TestP1_4ParseOfNearlyRightTexts(t *testing.T) {
	for _, text := range []string{
		"", ".", "..", "...", "5", "5.0", "5.0.", "5..7", ".0.7", "5.", "5.0.7.", ".5.0.7", "5.0.7.1", "5.0.7.0.0",
		"05.0.7", "5.00.7", "5.0.07", "00.0.0", "0.00.0", "0.0.00",
		"-5.0.7", "-0.0.0", "5.-0.7", "5.0.-7", "+5.0.7", "5.+0.7", "5.0.+7", "--5.0.7",
		" 5.0.7", "5.0.7 ", "5. 0.7", "5 .0.7", "5.0.7\n", "\t5.0.7", "5.0.7\x00",
		"5,0,7", "5.0,7", "5:0:7", "5_0.0.7", "1_000.0.0", "0x5.0.7", "5e1.0.0", "0b1.0.0", "0o7.0.0", "a.b.c", "5.0.x", "NaN.0.0", "Inf.0.0",
		"\uff15.0.7", "5\u00b70\u00b77", "\u0665.0.7", "\xff.0.7",
	} {
		refuse(t, text)
	}
}

func TestP1_4ParseOfNumbersBeyondTheirEnds(t *testing.T) {
	for _, text := range []string{
		"5.0.4294967296", "5.4294967296.0", "5.0.4294967303", "5.4294967303.7",
		"4611686018427387905.0.0", "9223372036854775807.0.0", "9223372036854775808.0.0",
		"18446744073709551615.0.0", "18446744073709551616.0.0", "18446744073709551621.0.7",
		"5.0.18446744073709551616", "5.18446744073709551616.0", "5.0.18446744073709551623",
		"99999999999999999999999999.0.0", "5.99999999999999999999999999.0",
		strings.Repeat("9", 5000) + ".0.0", strings.Repeat("0", 5000) + "5.0.7",
		strings.Repeat(".", 100000), strings.Repeat("5.", 100000), strings.Repeat("5.0.7", 1000),
	} {
		refuse(t, text)
	}
	for _, s := range stampsOf(wrongWalls()) {
		refuse(t, stamp.Text(s))
	}
}

// TestP1_4ParseOfTextsByteByByte: each text that is one byte off a right one is
// told by its form alone, for its numbers are small.
func TestP1_4ParseOfTextsByteByByte(t *testing.T) {
	form := regexp.MustCompile(`^(0|[1-9][0-9]*)\.(0|[1-9][0-9]*)\.(0|[1-9][0-9]*)\z`)
	for _, text := range []string{"5.0.7", "10.20.30", "0.0.0"} {
		for i := range len(text) + 1 {
			for b := range 256 {
				near := []string{text[:i] + string([]byte{byte(b)}) + text[i:]}
				if i < len(text) {
					near = append(near, text[:i]+string([]byte{byte(b)})+text[i+1:], text[:i]+text[i+1:])
				}
				for _, x := range near {
					if !form.MatchString(x) {
						refuse(t, x)
					} else if s, e := stamp.Parse(x); e != api.OK || stamp.Text(s) != x {
						t.Errorf("Parse(%q): %v, %d", x, s, e)
					}
				}
			}
		}
	}
}

// TestR5SameAnswers: an answer hangs on nothing that was asked before.
func TestR5SameAnswers(t *testing.T) {
	s := at(5, 6, 7)
	for range 3 {
		if n, e := stamp.Next(s); e != api.OK || n != at(5, 7, 0) {
			t.Errorf("Next(%v): %v, %d", s, n, e)
		}
		if g, e := stamp.Get(stamp.Put(s)); e != api.OK || g != s {
			t.Errorf("Get(Put(%v)): %v, %d", s, g, e)
		}
		if p, e := stamp.Parse(stamp.Text(s)); e != api.OK || p != s {
			t.Errorf("Parse(Text(%v)): %v, %d", s, p, e)
		}
		refuse(t, "5.0")
		stamp.Get(nil)
		stamp.Next(at(-1, 0, 0))
	}
}
