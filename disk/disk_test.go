package disk_test

import (
	"bytes"
	"math"
	"slices"
	"testing"

	"slackwater/api"
	"slackwater/disk"
)

// The limits stand here as numbers, so that the tests hold them, too.
const (
	maxRoom = 1 << 26
	maxSegs = 1024
)

// dice throws the same numbers in each run.
type dice uint64

func (d *dice) next() uint64 {
	*d = *d*6364136223846793005 + 1442695040888963407
	x := uint64(*d)
	return x ^ x>>29
}

func (d *dice) below(n int) int { return int(d.next() >> 8 % uint64(n)) }

// bytes are at most n bytes.
func (d *dice) bytes(n int) []byte {
	b := make([]byte, d.below(n+1))
	for i := range b {
		b[i] = byte(d.next())
	}
	return b
}

func make1(t *testing.T, room int) *disk.Disk {
	t.Helper()
	d, e := disk.New(room)
	if d == nil || e != api.OK {
		t.Fatalf("New(%d): %v, error %d", room, d, e)
	}
	return d
}

func want(t *testing.T, what string, got, e api.Errno) {
	t.Helper()
	if got != e {
		t.Errorf("%s: error %d, want %d", what, got, e)
	}
}

// ok holds that some calls, done one behind the other, are all done.
func ok(t *testing.T, calls ...api.Errno) {
	t.Helper()
	for i, e := range calls {
		if e != api.OK {
			t.Fatalf("the %d-th call: error %d", i, e)
		}
	}
}

func wantRead(t *testing.T, d *disk.Disk, n int, text string) {
	t.Helper()
	if b, e := d.Read(n); string(b) != text || e != api.OK {
		t.Errorf("Read(%d): %q, error %d, want %q", n, b, e, text)
	}
}

func wantNoRead(t *testing.T, d *disk.Disk, n int, want api.Errno) {
	t.Helper()
	if b, e := d.Read(n); len(b) != 0 || e != want {
		t.Errorf("Read(%d): %q, error %d, want error %d", n, b, e, want)
	}
}

func wantSegs(t *testing.T, d *disk.Disk, numbers ...int) {
	t.Helper()
	if l, e := d.Segs(); !slices.Equal(l, numbers) || e != api.OK {
		t.Errorf("Segs: %v, error %d, want %v", l, e, numbers)
	}
}

func wantNoSegs(t *testing.T, d *disk.Disk, want api.Errno) {
	t.Helper()
	if l, e := d.Segs(); len(l) != 0 || e != want {
		t.Errorf("Segs: %v, error %d, want error %d", l, e, want)
	}
}

func wantUsed(t *testing.T, d *disk.Disk, used int) {
	t.Helper()
	if got := d.Used(); got != used {
		t.Errorf("Used: %d, want %d", got, used)
	}
}

func wantDown(t *testing.T, d *disk.Disk, down bool) {
	t.Helper()
	if got := d.Down(); got != down {
		t.Errorf("Down: %t, want %t", got, down)
	}
}

func TestP7_1New(t *testing.T) {
	for _, room := range []int{0, 1, 100, maxRoom - 1, maxRoom} {
		d := make1(t, room)
		wantSegs(t, d)
		wantUsed(t, d, 0)
		wantDown(t, d, false)
	}
	for _, room := range []int{-1, maxRoom + 1, math.MinInt, math.MaxInt} {
		if d, e := disk.New(room); d != nil || e != api.ErrArg {
			t.Errorf("New(%d): %v, error %d", room, d, e)
		}
	}
}

func TestP7_1NewHasNoFuse(t *testing.T) {
	d := make1(t, 100)
	for range 300 {
		ok(t, d.Append(1, nil), d.Sync(1), d.Drop(1))
	}
	wantDown(t, d, false)
}

func TestP7_1Append(t *testing.T) {
	d := make1(t, 100)
	ok(t, d.Append(1, []byte("ab")), d.Append(2, []byte("x")), d.Append(1, []byte("cd")), d.Append(1, nil))
	wantRead(t, d, 1, "abcd")
	wantRead(t, d, 2, "x")
	ok(t, d.Append(2, []byte{}), d.Append(2, []byte{0, 255}))
	wantRead(t, d, 2, "x\x00\xff")
	wantUsed(t, d, 7)
}

func TestP7_1AppendOfNoBytesMakesASegment(t *testing.T) {
	d := make1(t, 0)
	ok(t, d.Append(3, nil), d.Append(math.MaxInt, []byte{}), d.Append(1, nil), d.Append(3, nil))
	wantSegs(t, d, 1, 3, math.MaxInt)
	wantRead(t, d, 3, "")
	wantRead(t, d, math.MaxInt, "")
	wantUsed(t, d, 0)
}

func TestP7_1AppendErrorsInTheirOrder(t *testing.T) {
	d := make1(t, 3)
	ok(t, d.Append(1, []byte("ab")))
	for _, n := range []int{0, -1, math.MinInt} {
		want(t, "Append to a number below 1", d.Append(n, nil), api.ErrArg)
		want(t, "Append of too much to a number below 1", d.Append(n, []byte("abcd")), api.ErrArg)
	}
	want(t, "Append of too much", d.Append(1, []byte("cd")), api.ErrFull)
	want(t, "Append of too much, elsewhere", d.Append(2, []byte("cd")), api.ErrFull)
	ok(t, d.Fuse(0))
	want(t, "Append below 1, by a fuse 0", d.Append(0, nil), api.ErrArg)
	want(t, "Append of too much, by a fuse 0", d.Append(1, []byte("cd")), api.ErrFull)
	wantDown(t, d, false)
	want(t, "Append by a fuse 0", d.Append(1, []byte("c")), api.ErrDown)
	wantDown(t, d, true)
	want(t, "Append below 1, without power", d.Append(0, nil), api.ErrDown)
	want(t, "Append of too much, without power", d.Append(1, []byte("cd")), api.ErrDown)
}

func TestP7_1AppendRoom(t *testing.T) {
	d := make1(t, 5)
	ok(t, d.Append(1, []byte("ab")), d.Append(2, []byte("cde")))
	wantUsed(t, d, 5)
	want(t, "Append behind the room's end", d.Append(1, []byte("f")), api.ErrFull)
	want(t, "Append behind the room's end, elsewhere", d.Append(3, []byte("f")), api.ErrFull)
	ok(t, d.Append(1, nil), d.Append(3, nil), d.Drop(1), d.Append(3, []byte("fg")))
	want(t, "Append behind the room's end", d.Append(2, []byte("h")), api.ErrFull)
	wantSegs(t, d, 2, 3)
	wantRead(t, d, 2, "cde")
	wantRead(t, d, 3, "fg")
}

func TestP7_1AppendAsMuchAsCanBe(t *testing.T) {
	d := make1(t, maxRoom)
	b := make([]byte, maxRoom+1)
	want(t, "Append of one byte too many", d.Append(1, b), api.ErrFull)
	wantSegs(t, d)
	ok(t, d.Append(1, b[1:]))
	wantUsed(t, d, maxRoom)
	want(t, "Append of one byte more", d.Append(2, b[:1]), api.ErrFull)
	ok(t, d.Crash(nil), d.Append(2, b[1:]), d.Sync(2), d.Crash(nil))
	wantUsed(t, d, maxRoom)
}

func TestP7_1AppendSegments(t *testing.T) {
	d := make1(t, 10)
	for i := range maxSegs {
		ok(t, d.Append(7*i+1, nil))
	}
	want(t, "Append to one segment more", d.Append(2, nil), api.ErrFull)
	want(t, "Append to one segment more", d.Append(2, []byte("a")), api.ErrFull)
	want(t, "Append below 1", d.Append(0, nil), api.ErrArg)
	ok(t, d.Append(1, []byte("a")), d.Append(7*(maxSegs-1)+1, []byte("b")), d.Drop(8), d.Append(2, nil))
	want(t, "Append to one segment more", d.Append(8, nil), api.ErrFull)
	if l, e := d.Segs(); len(l) != maxSegs || e != api.OK {
		t.Errorf("Segs: %d, error %d", len(l), e)
	}
	ok(t, d.Crash([]int{1}), d.Append(8, nil))
	wantSegs(t, d, 1, 8)
}

func TestP7_1Sync(t *testing.T) {
	d := make1(t, 100)
	ok(t, d.Append(1, []byte("ab")), d.Append(2, []byte("x")), d.Append(3, nil), d.Append(4, nil))
	ok(t, d.Sync(1), d.Sync(1), d.Append(1, []byte("cd")), d.Sync(1), d.Append(1, []byte("ef")), d.Sync(3))
	wantRead(t, d, 1, "abcdef")
	ok(t, d.Crash(nil))
	wantSegs(t, d, 1, 3)
	wantRead(t, d, 1, "abcd")
	wantRead(t, d, 3, "")
	wantUsed(t, d, 4)
}

func TestP7_1Drop(t *testing.T) {
	d := make1(t, 100)
	ok(t, d.Append(1, []byte("ab")), d.Sync(1), d.Append(2, []byte("cde")), d.Append(3, nil), d.Sync(3))
	ok(t, d.Drop(1))
	wantSegs(t, d, 2, 3)
	wantNoRead(t, d, 1, api.ErrNone)
	wantUsed(t, d, 3)
	ok(t, d.Drop(3), d.Drop(2))
	wantSegs(t, d)
	wantUsed(t, d, 0)
	ok(t, d.Crash([]int{9, 9, 9}))
	wantSegs(t, d)
}

func TestP7_1DropIsForGood(t *testing.T) {
	d := make1(t, 100)
	ok(t, d.Append(1, []byte("ab")), d.Sync(1), d.Drop(1), d.Append(1, []byte("xyz")))
	wantRead(t, d, 1, "xyz")
	// Nothing of the new segment lasts.
	ok(t, d.Crash(nil))
	wantSegs(t, d)
	ok(t, d.Append(1, []byte("ab")), d.Sync(1), d.Drop(1), d.Append(1, nil), d.Crash([]int{5}))
	wantSegs(t, d)
}

func TestP7_1NoSuchSegment(t *testing.T) {
	d := make1(t, 100)
	ok(t, d.Append(2, []byte("x")))
	for _, n := range []int{1, 3, 0, -1, math.MaxInt, math.MinInt} {
		want(t, "Sync of none", d.Sync(n), api.ErrNone)
		want(t, "Drop of none", d.Drop(n), api.ErrNone)
		wantNoRead(t, d, n, api.ErrNone)
	}
	ok(t, d.Fuse(0))
	want(t, "Sync of none, by a fuse 0", d.Sync(1), api.ErrNone)
	want(t, "Drop of none, by a fuse 0", d.Drop(1), api.ErrNone)
	wantDown(t, d, false)
	want(t, "Drop by a fuse 0", d.Drop(2), api.ErrDown)
	want(t, "Sync of none, without power", d.Sync(1), api.ErrDown)
	want(t, "Drop of none, without power", d.Drop(1), api.ErrDown)
	wantNoRead(t, d, 1, api.ErrDown)
}

func TestP7_2Read(t *testing.T) {
	d := make1(t, 1000)
	all := make([]byte, 256)
	for i := range all {
		all[i] = byte(i)
	}
	ok(t, d.Append(9, all), d.Append(9, all))
	wantRead(t, d, 9, string(all)+string(all))
	ok(t, d.Sync(9))
	wantRead(t, d, 9, string(all)+string(all))
}

func TestP7_2SegsRise(t *testing.T) {
	d := make1(t, 100)
	for _, n := range []int{5, 1, 1000, 3, math.MaxInt, 2} {
		ok(t, d.Append(n, []byte{1}))
	}
	for range 20 {
		wantSegs(t, d, 1, 2, 3, 5, 1000, math.MaxInt)
	}
}

func TestP7_2WhilePowerIsGone(t *testing.T) {
	d := make1(t, 100)
	ok(t, d.Append(1, []byte("ab")), d.Sync(1), d.Append(1, []byte("cd")), d.Append(2, []byte("x")), d.Fuse(0))
	want(t, "Append by a fuse 0", d.Append(1, []byte("e")), api.ErrDown)
	for range 2 {
		wantDown(t, d, true)
		wantUsed(t, d, 5)
		wantNoRead(t, d, 1, api.ErrDown)
		wantNoRead(t, d, 3, api.ErrDown)
		wantNoSegs(t, d, api.ErrDown)
		want(t, "Append without power", d.Append(1, nil), api.ErrDown)
		want(t, "Sync without power", d.Sync(1), api.ErrDown)
		want(t, "Drop without power", d.Drop(1), api.ErrDown)
		for _, n := range []int{0, 1, -1, 100} {
			want(t, "Fuse without power", d.Fuse(n), api.ErrDown)
		}
	}
	ok(t, d.Crash([]int{9, 9}))
	wantDown(t, d, false)
	wantUsed(t, d, 5)
	wantRead(t, d, 1, "abcd")
	wantRead(t, d, 2, "x")
}

func TestP7_3Fuse(t *testing.T) {
	steps := []func(d *disk.Disk) api.Errno{
		func(d *disk.Disk) api.Errno { return d.Append(1, []byte("x")) },
		func(d *disk.Disk) api.Errno { return d.Append(1, nil) },
		func(d *disk.Disk) api.Errno { return d.Sync(1) },
		func(d *disk.Disk) api.Errno { return d.Append(2, nil) },
		func(d *disk.Disk) api.Errno { return d.Sync(2) },
		func(d *disk.Disk) api.Errno { return d.Drop(2) },
	}
	for fuse := range len(steps) + 1 {
		d := make1(t, 100)
		ok(t, d.Fuse(fuse))
		for i, step := range steps {
			e := api.OK
			if i >= fuse {
				e = api.ErrDown
			}
			want(t, "a step by a fuse", step(d), e)
			wantDown(t, d, i >= fuse)
		}
	}
}

func TestP7_3OnlyStepsTakeOfTheFuse(t *testing.T) {
	d := make1(t, 3)
	ok(t, d.Append(1, []byte("ab")), d.Fuse(1))
	for range 5 {
		want(t, "Append below 1", d.Append(0, nil), api.ErrArg)
		want(t, "Append of too much", d.Append(1, []byte("cd")), api.ErrFull)
		want(t, "Sync of none", d.Sync(2), api.ErrNone)
		want(t, "Drop of none", d.Drop(2), api.ErrNone)
		wantNoRead(t, d, 2, api.ErrNone)
		wantRead(t, d, 1, "ab")
		wantSegs(t, d, 1)
		wantUsed(t, d, 2)
		wantDown(t, d, false)
	}
	ok(t, d.Sync(1))
	wantDown(t, d, false)
	want(t, "Sync by a fuse 0", d.Sync(1), api.ErrDown)
}

func TestP7_3FuseIsTheLastOne(t *testing.T) {
	d := make1(t, 100)
	ok(t, d.Fuse(0), d.Fuse(2), d.Append(1, nil), d.Fuse(2), d.Append(1, nil), d.Append(1, nil))
	ok(t, d.Fuse(1), d.Fuse(0))
	want(t, "Append by a fuse 0", d.Append(1, nil), api.ErrDown)
	for _, none := range []int{-1, -2, math.MinInt} {
		ok(t, d.Crash(nil), d.Fuse(0), d.Fuse(none), d.Append(1, nil), d.Sync(1), d.Drop(1))
		ok(t, d.Fuse(1), d.Fuse(none), d.Append(1, nil), d.Sync(1), d.Drop(1))
		ok(t, d.Fuse(0))
		want(t, "Append by a fuse 0", d.Append(1, nil), api.ErrDown)
	}
	ok(t, d.Crash(nil), d.Fuse(math.MaxInt), d.Append(1, nil), d.Sync(1), d.Drop(1))
}

func TestP7_3CrashTakesTheFuse(t *testing.T) {
	d := make1(t, 100)
	ok(t, d.Fuse(0), d.Crash(nil), d.Append(1, nil), d.Sync(1))
	ok(t, d.Fuse(1), d.Crash(nil), d.Append(1, nil), d.Sync(1))
	ok(t, d.Fuse(0))
	want(t, "Sync by a fuse 0", d.Sync(1), api.ErrDown)
	ok(t, d.Crash(nil), d.Sync(1), d.Sync(1))
}

func TestP7_3Crash(t *testing.T) {
	for _, c := range []struct {
		keep []int
		one  string
		two  string
	}{
		{nil, "ab", ""},
		{[]int{}, "ab", ""},
		{[]int{0, 0}, "ab", ""},
		{[]int{1}, "abc", ""},
		{[]int{2, 1}, "abcd", "x"},
		{[]int{3, 2}, "abcde", "xy"},
		{[]int{4, 3}, "abcde", "xyz"},
		{[]int{-1, 1}, "ab", "x"},
		{[]int{math.MinInt, math.MaxInt}, "ab", "xyz"},
		{[]int{math.MaxInt, math.MinInt}, "abcde", ""},
		{[]int{1, 1, 1, 1, 1}, "abc", "x"},
	} {
		d := make1(t, 100)
		ok(t, d.Append(7, []byte("xyz")), d.Append(3, []byte("ab")), d.Sync(3), d.Append(3, []byte("cde")), d.Crash(c.keep))
		wantRead(t, d, 3, c.one)
		wantUsed(t, d, len(c.one)+len(c.two))
		if c.two == "" {
			wantSegs(t, d, 3)
			continue
		}
		wantSegs(t, d, 3, 7)
		wantRead(t, d, 7, c.two)
	}
}

func TestP7_3CrashCountsAllSegments(t *testing.T) {
	d := make1(t, 100)
	for _, n := range []int{40, 10, 30, 20} {
		ok(t, d.Append(n, []byte("abcd")))
	}
	ok(t, d.Append(25, nil), d.Sync(20), d.Crash([]int{0, 4, 1, 2, 3}))
	wantSegs(t, d, 20, 30, 40)
	wantRead(t, d, 20, "abcd")
	wantRead(t, d, 30, "ab")
	wantRead(t, d, 40, "abc")
	wantUsed(t, d, 9)
}

func TestP7_3WhatACrashLeavesLasts(t *testing.T) {
	d := make1(t, 100)
	ok(t, d.Append(1, []byte("ab")), d.Append(2, []byte("cd")), d.Sync(2), d.Append(2, []byte("ef")), d.Append(3, nil), d.Sync(3))
	ok(t, d.Crash([]int{1, 1}), d.Crash(nil))
	wantSegs(t, d, 1, 2, 3)
	wantRead(t, d, 1, "a")
	wantRead(t, d, 2, "cde")
	ok(t, d.Append(1, []byte("x")), d.Append(2, []byte("y")))
	wantRead(t, d, 1, "ax")
	wantRead(t, d, 2, "cdey")
	ok(t, d.Crash(nil))
	wantRead(t, d, 1, "a")
	wantRead(t, d, 2, "cde")
	wantRead(t, d, 3, "")
}

func TestP7_3CrashGivesRoomBack(t *testing.T) {
	d := make1(t, 6)
	ok(t, d.Append(1, []byte("abc")), d.Sync(1), d.Append(1, []byte("def")), d.Crash([]int{1}))
	want(t, "Append of too much", d.Append(2, []byte("xyz")), api.ErrFull)
	ok(t, d.Append(2, []byte("xy")))
	wantRead(t, d, 1, "abcd")
	wantRead(t, d, 2, "xy")
}

func TestP7_3Examples(t *testing.T) {
	d := make1(t, 100)
	ok(t, d.Append(1, []byte("ab")), d.Sync(1), d.Append(1, []byte("cd")), d.Crash([]int{1}))
	wantRead(t, d, 1, "abc")
	ok(t, d.Append(2, []byte("x")), d.Crash([]int{}))
	wantNoRead(t, d, 2, api.ErrNone)
	wantSegs(t, d, 1)
	ok(t, d.Fuse(1), d.Append(3, []byte("x")))
	want(t, "Sync(3)", d.Sync(3), api.ErrDown)
	wantNoRead(t, d, 3, api.ErrDown)
	ok(t, d.Crash([]int{0, 9}))
	wantRead(t, d, 1, "abc")
	wantRead(t, d, 3, "x")
}

// refuse calls, on one of two disks that are alike, all that is refused, and
// holds that the two are alike behind it, and behind the same crash.
func refuse(t *testing.T, fill, refused func(d *disk.Disk)) {
	t.Helper()
	for _, keep := range [][]int{nil, {1, 1, 1}, {9, 9, 9}} {
		a, b := make1(t, 10), make1(t, 10)
		fill(a)
		fill(b)
		refused(a)
		wantAlike(t, a, b)
		ok(t, a.Crash(keep), b.Crash(keep))
		wantAlike(t, a, b)
	}
}

func wantAlike(t *testing.T, a, b *disk.Disk) {
	t.Helper()
	l, e := a.Segs()
	m, f := b.Segs()
	if !slices.Equal(l, m) || e != f || a.Used() != b.Used() || a.Down() != b.Down() {
		t.Errorf("one disk: %v, error %d, %d, %t, the other: %v, error %d, %d, %t", l, e, a.Used(), a.Down(), m, f, b.Used(), b.Down())
	}
	for _, n := range l {
		p, _ := a.Read(n)
		q, _ := b.Read(n)
		if !bytes.Equal(p, q) {
			t.Errorf("%d: %q, and %q", n, p, q)
		}
	}
}

func TestP7_4RefusedCallsChangeNothing(t *testing.T) {
	fill := func(d *disk.Disk) {
		ok(t, d.Append(1, []byte("abc")), d.Sync(1), d.Append(1, []byte("de")), d.Append(2, []byte("xy")))
	}
	refuse(t, fill, func(d *disk.Disk) {
		want(t, "Append of too much", d.Append(2, []byte("1234")), api.ErrFull)
		want(t, "Append of too much, elsewhere", d.Append(3, []byte("1234")), api.ErrFull)
		want(t, "Append below 1", d.Append(-2, []byte("1")), api.ErrArg)
		want(t, "Sync of none", d.Sync(3), api.ErrNone)
		want(t, "Drop of none", d.Drop(3), api.ErrNone)
	})
	without := func(d *disk.Disk) {
		fill(d)
		ok(t, d.Fuse(0))
		want(t, "Sync by a fuse 0", d.Sync(2), api.ErrDown)
	}
	refuse(t, without, func(d *disk.Disk) {
		want(t, "Append", d.Append(1, []byte("1")), api.ErrDown)
		want(t, "Append elsewhere", d.Append(3, nil), api.ErrDown)
		want(t, "Sync", d.Sync(1), api.ErrDown)
		want(t, "Sync", d.Sync(2), api.ErrDown)
		want(t, "Drop", d.Drop(1), api.ErrDown)
		want(t, "Fuse", d.Fuse(-1), api.ErrDown)
	})
}

func TestP7_4AStepThatIsNotDoneChangesNothingButThePower(t *testing.T) {
	for _, step := range []func(d *disk.Disk) api.Errno{
		func(d *disk.Disk) api.Errno { return d.Append(1, []byte("f")) },
		func(d *disk.Disk) api.Errno { return d.Append(3, []byte("f")) },
		func(d *disk.Disk) api.Errno { return d.Append(3, nil) },
		func(d *disk.Disk) api.Errno { return d.Sync(1) },
		func(d *disk.Disk) api.Errno { return d.Sync(2) },
		func(d *disk.Disk) api.Errno { return d.Drop(1) },
		func(d *disk.Disk) api.Errno { return d.Drop(2) },
	} {
		for keep := range 4 {
			d := make1(t, 100)
			ok(t, d.Append(1, []byte("abc")), d.Sync(1), d.Append(1, []byte("de")), d.Append(2, []byte("xy")), d.Fuse(0))
			want(t, "a step by a fuse 0", step(d), api.ErrDown)
			wantDown(t, d, true)
			wantUsed(t, d, 7)
			ok(t, d.Crash([]int{keep, keep, keep}))
			wantRead(t, d, 1, "abcde"[:min(3+keep, 5)])
			if keep == 0 {
				wantSegs(t, d, 1)
				continue
			}
			wantSegs(t, d, 1, 2)
			wantRead(t, d, 2, "xy"[:min(keep, 2)])
		}
	}
}

// part is a segment of the model: the bytes, told byte by byte, and how many
// of them last; -1: the segment itself doesn't.
type part struct {
	bytes []byte
	last  int
}

// model is a disk, as its chapter tells of it.
type model struct {
	room int
	segs map[int]part
	fuse int
	down bool
}

func (m *model) used() int {
	n := 0
	for _, s := range m.segs {
		n += len(s.bytes)
	}
	return n
}

func (m *model) numbers() []int {
	var l []int
	for n := range m.segs {
		l = append(l, n)
	}
	slices.Sort(l)
	return l
}

func (m *model) step() api.Errno {
	if m.fuse == 0 {
		m.down = true
		return api.ErrDown
	}
	if m.fuse > 0 {
		m.fuse--
	}
	return api.OK
}

func (m *model) append(n int, p []byte) api.Errno {
	s, there := m.segs[n]
	if m.down {
		return api.ErrDown
	}
	if n < 1 {
		return api.ErrArg
	}
	if m.used()+len(p) > m.room || !there && len(m.segs) == maxSegs {
		return api.ErrFull
	}
	if e := m.step(); e != api.OK {
		return e
	}
	if !there {
		s.last = -1
	}
	s.bytes = append(slices.Clone(s.bytes), p...)
	m.segs[n] = s
	return api.OK
}

func (m *model) sync(n int) api.Errno {
	s, there := m.segs[n]
	if m.down {
		return api.ErrDown
	}
	if !there {
		return api.ErrNone
	}
	if e := m.step(); e != api.OK {
		return e
	}
	m.segs[n] = part{s.bytes, len(s.bytes)}
	return api.OK
}

func (m *model) drop(n int) api.Errno {
	_, there := m.segs[n]
	if m.down {
		return api.ErrDown
	}
	if !there {
		return api.ErrNone
	}
	if e := m.step(); e != api.OK {
		return e
	}
	delete(m.segs, n)
	return api.OK
}

func (m *model) setFuse(n int) api.Errno {
	if m.down {
		return api.ErrDown
	}
	m.fuse = n
	return api.OK
}

func (m *model) crash(keep []int) {
	left := map[int]part{}
	for i, n := range m.numbers() {
		s := m.segs[n]
		var b []byte
		for j, c := range s.bytes {
			if j < s.last || i < len(keep) && j-max(s.last, 0) < keep[i] {
				b = append(b, c)
			}
		}
		if s.last >= 0 || len(b) > 0 {
			left[n] = part{b, len(b)}
		}
	}
	m.segs, m.fuse, m.down = left, -1, false
}

// wantModel holds that a disk tells what the model does.
func wantModel(t *testing.T, d *disk.Disk, m *model) {
	t.Helper()
	wantUsed(t, d, m.used())
	wantDown(t, d, m.down)
	if m.down {
		wantNoSegs(t, d, api.ErrDown)
		wantNoRead(t, d, 1, api.ErrDown)
		return
	}
	wantSegs(t, d, m.numbers()...)
	for n := range 6 {
		if s, there := m.segs[n]; there {
			wantRead(t, d, n, string(s.bytes))
		} else {
			wantNoRead(t, d, n, api.ErrNone)
		}
	}
}

func TestP7_4LikeTheModel(t *testing.T) {
	x := dice(7)
	for round := range 200 {
		room := x.below(60)
		d, m := make1(t, room), &model{room: room, segs: map[int]part{}, fuse: -1}
		for range 200 {
			n := x.below(7) - 1
			switch x.below(10) {
			case 0, 1, 2, 3:
				p := x.bytes(8)
				want(t, "Append", d.Append(n, p), m.append(n, p))
			case 4, 5:
				want(t, "Sync", d.Sync(n), m.sync(n))
			case 6:
				want(t, "Drop", d.Drop(n), m.drop(n))
			case 7:
				fuse := x.below(12) - 3
				want(t, "Fuse", d.Fuse(fuse), m.setFuse(fuse))
			default:
				keep := make([]int, x.below(7))
				for i := range keep {
					keep[i] = x.below(12) - 2
				}
				want(t, "Crash", d.Crash(keep), api.OK)
				m.crash(keep)
			}
			wantModel(t, d, m)
			if t.Failed() {
				t.Fatalf("in round %d", round)
			}
		}
	}
}

// TestP7_4WhatLastedIsThere holds the promise itself, without the model: at
// each place at which the power may go, of a log that is written and synced.
func TestP7_4WhatLastedIsThere(t *testing.T) {
	for fuse := range 30 {
		for keep := range 5 {
			d := make1(t, 1000)
			ok(t, d.Fuse(fuse))
			sent, lasts := "", ""
			for i := range 40 {
				if i%4 == 3 && d.Sync(1) == api.OK {
					lasts = sent
				} else if i%4 != 3 && d.Append(1, []byte{byte(i), 0}) == api.OK {
					sent += string([]byte{byte(i), 0})
				}
			}
			ok(t, d.Crash([]int{keep}))
			b, _ := d.Read(1)
			if got := string(b); len(got) < len(lasts) || got != sent[:min(len(lasts)+keep, len(sent))] {
				t.Errorf("fuse %d, keep %d: %q, of %q, of which last %q", fuse, keep, got, sent, lasts)
			}
		}
	}
}

func TestR1NilDisk(t *testing.T) {
	var d *disk.Disk
	for _, n := range []int{0, 1, -1} {
		want(t, "Append to nil", d.Append(n, nil), api.ErrNil)
		want(t, "Sync of nil", d.Sync(n), api.ErrNil)
		want(t, "Drop of nil", d.Drop(n), api.ErrNil)
		want(t, "Fuse of nil", d.Fuse(n), api.ErrNil)
		want(t, "Crash of nil", d.Crash([]int{n}), api.ErrNil)
		wantNoRead(t, d, n, api.ErrNil)
	}
	want(t, "Crash of nil", d.Crash(nil), api.ErrNil)
	wantNoSegs(t, d, api.ErrNil)
	wantUsed(t, d, 0)
	wantDown(t, d, false)
}

// TestR1OtherDisks: of a disk that New didn't make nothing is promised but
// that no call on it panics.
func TestR1OtherDisks(t *testing.T) {
	for _, d := range []*disk.Disk{{}, new(disk.Disk)} {
		for range 3 {
			for _, n := range []int{0, 1, 2, -1, math.MaxInt, math.MinInt} {
				d.Append(n, nil)
				d.Append(n, []byte("ab"))
				d.Sync(n)
				d.Read(n)
				d.Segs()
				d.Used()
				d.Down()
				d.Fuse(-1)
				d.Drop(n)
				d.Append(n, nil)
			}
			d.Crash([]int{1})
			d.Append(1, nil)
			d.Sync(1)
			d.Drop(1)
		}
	}
}

func TestR3NothingHandedInIsChangedOrKept(t *testing.T) {
	d := make1(t, 100)
	room := []byte("abcdefgh")
	p := room[:2]
	ok(t, d.Append(1, p))
	p[0] = 'X'
	wantRead(t, d, 1, "ab")
	ok(t, d.Append(1, []byte("yz")))
	wantRead(t, d, 1, "abyz")
	if string(room) != "Xbcdefgh" {
		t.Errorf("Append changed what it was handed to %q", room)
	}
	keep := []int{3, -1, 7, 8}
	ok(t, d.Crash(keep[:2]))
	if !slices.Equal(keep, []int{3, -1, 7, 8}) {
		t.Errorf("Crash changed what it was handed to %v", keep)
	}
	wantRead(t, d, 1, "aby")
}

func TestR3WhatIsHandedOutIsNewMemory(t *testing.T) {
	d := make1(t, 100)
	ok(t, d.Append(1, []byte("abc")), d.Append(1, []byte("d")), d.Append(2, nil))
	b, _ := d.Read(1)
	c, _ := d.Read(1)
	b[0] = 'X'
	b = append(b, "YYYYYYYY"...)
	wantRead(t, d, 1, "abcd")
	if string(c) != "abcd" {
		t.Errorf("another answer is %q now", c)
	}
	ok(t, d.Append(1, []byte("ef")))
	if string(b[:cap(b)][:12]) != "XbcdYYYYYYYY" || string(c) != "abcd" {
		t.Errorf("Append changed what was handed out to %q, %q", b, c)
	}
	ok(t, d.Crash([]int{1}))
	wantRead(t, d, 1, "a")
	ok(t, d.Append(1, []byte("zzz")))
	if string(c) != "abcd" {
		t.Errorf("what was handed out is %q now", c)
	}
	l, _ := d.Segs()
	l[0] = 9
	wantSegs(t, d, 1)
}

func TestR4NilAndEmptyBytesAreOne(t *testing.T) {
	a, b := make1(t, 10), make1(t, 10)
	ok(t, a.Append(1, nil), b.Append(1, []byte{}), a.Sync(1), b.Sync(1))
	wantAlike(t, a, b)
	ok(t, a.Append(2, nil), b.Append(2, []byte{}), a.Crash(nil), b.Crash([]int{}))
	wantAlike(t, a, b)
}

func TestR5DisksAreApart(t *testing.T) {
	a, b := make1(t, 10), make1(t, 10)
	ok(t, a.Append(1, []byte("ab")), b.Append(1, []byte("x")), b.Fuse(0))
	want(t, "Sync by a fuse 0", b.Sync(1), api.ErrDown)
	wantRead(t, a, 1, "ab")
	wantDown(t, a, false)
	ok(t, b.Crash(nil))
	wantSegs(t, a, 1)
	wantSegs(t, b)
}
