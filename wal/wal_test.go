package wal_test

import (
	"bytes"
	"fmt"
	"hash/crc32"
	"math"
	"slices"
	"testing"

	"slackwater/api"
	"slackwater/disk"
	"slackwater/wal"
)

// The limits and the kinds of frames stand here as numbers, so that the tests
// hold them, too.
const (
	maxPayload = 1 << 20
	maxRoom    = 1 << 26
	maxSegs    = 1024

	record = 1
	base   = 2
	seal   = 3
)

// dice throws the same numbers in each run.
type dice uint64

func (d *dice) next() uint64 {
	*d = *d*6364136223846793005 + 1442695040888963407
	x := uint64(*d)
	return x ^ x>>29
}

func (d *dice) below(n int) int { return int(d.next() >> 8 % uint64(n)) }

// bytes are at most n bytes.
func (d *dice) bytes(n int) []byte {
	b := make([]byte, d.below(n+1))
	for i := range b {
		b[i] = byte(d.next() >> 40)
	}
	return b
}

// framed is a frame by hash/crc32.
func framed(kind byte, p string) []byte {
	n := len(p)
	b := []byte{0xa7, kind, byte(n >> 16), byte(n >> 8), byte(n)}
	sum := crc32.Checksum(append(slices.Clone(b[1:]), p...), crc32.MakeTable(crc32.Castagnoli))
	b = append(b, byte(sum), byte(sum>>8), byte(sum>>16), byte(sum>>24))
	return append(b, p...)
}

// part is what a frame is made of, or other bytes if its kind is 0.
type part struct {
	kind byte
	text string
}

func bytesOf(parts ...part) []byte {
	var b []byte
	for _, p := range parts {
		if p.kind == 0 {
			b = append(b, p.text...)
		} else {
			b = append(b, framed(p.kind, p.text)...)
		}
	}
	return b
}

// laid is a segment as it is laid with a base and records.
func laid(first string, recs ...string) []byte {
	b := framed(base, first)
	for _, p := range recs {
		b = append(b, framed(record, p)...)
	}
	return append(b, framed(seal, "")...)
}

func make1(t *testing.T, room int) *disk.Disk {
	t.Helper()
	d, e := disk.New(room)
	if d == nil || e != api.OK {
		t.Fatalf("disk.New(%d): %v, error %d", room, d, e)
	}
	return d
}

func want(t *testing.T, what string, got, e api.Errno) {
	t.Helper()
	if got != e {
		t.Errorf("%s: error %d, want %d", what, got, e)
	}
}

// ok holds that some calls, done one behind the other, are all done.
func ok(t *testing.T, calls ...api.Errno) {
	t.Helper()
	for i, e := range calls {
		if e != api.OK {
			t.Fatalf("the %d-th call: error %d", i, e)
		}
	}
}

func texts(recs [][]byte) []string {
	var l []string
	for _, p := range recs {
		l = append(l, string(p))
	}
	return l
}

func wantOpen(t *testing.T, what string, d *disk.Disk, first string, recs ...string) *wal.Wal {
	t.Helper()
	w, b, l, e := wal.Open(d)
	if w == nil || string(b) != first || !slices.Equal(texts(l), recs) || e != api.OK {
		t.Fatalf("Open of %s: %q, %q, error %d, want %q, %q", what, b, l, e, first, recs)
	}
	return w
}

func refuseOpen(t *testing.T, what string, d *disk.Disk, want api.Errno) {
	t.Helper()
	w, b, l, e := wal.Open(d)
	if w != nil || len(b) != 0 || len(l) != 0 || e != want {
		t.Errorf("Open of %s: %v, %q, %q, error %d, want error %d", what, w, b, l, e, want)
	}
}

func wantSegs(t *testing.T, what string, d *disk.Disk, numbers ...int) {
	t.Helper()
	if l, e := d.Segs(); !slices.Equal(l, numbers) || e != api.OK {
		t.Errorf("the segments of %s: %v, error %d, want %v", what, l, e, numbers)
	}
}

func wantRead(t *testing.T, what string, d *disk.Disk, n int, b []byte) {
	t.Helper()
	if got, e := d.Read(n); !bytes.Equal(got, b) || e != api.OK {
		t.Errorf("the segment %d of %s: %s, error %d, want %s", n, what, short(got), e, short(b))
	}
}

// short is how bytes are told: a long segment's beginning will do.
func short(b []byte) string {
	return fmt.Sprintf("%d bytes, %x", len(b), b[:min(len(b), 300)])
}

// wantOnly holds that there is but this segment, and that it lasts.
func wantOnly(t *testing.T, what string, d *disk.Disk, n int, b []byte) {
	t.Helper()
	wantSegs(t, what, d, n)
	wantRead(t, what, d, n, b)
	ok(t, d.Crash(nil))
	wantSegs(t, what+", behind a crash", d, n)
	wantRead(t, what+", behind a crash", d, n, b)
}

func TestP9_1EmptyDisk(t *testing.T) {
	d := make1(t, 100)
	wantOpen(t, "an empty disk", d, "")
	wantOnly(t, "an empty disk", d, 1, laid(""))
	wantOpen(t, "it, once more", d, "")
	wantOnly(t, "it, once more", d, 1, laid(""))
}

// standing are segments' parts, and what stands there: text is the base, recs
// the records, tail whether there is something behind them.
var standing = []struct {
	what  string
	parts []part
	text  string
	recs  []string
	tail  bool
}{
	{"a base and a seal", []part{{base, "b"}, {seal, ""}}, "b", nil, false},
	{"nothing but heads", []part{{base, ""}, {record, ""}, {seal, ""}, {record, ""}}, "", []string{"", ""}, false},
	{"records ahead of the seal", []part{{base, "b"}, {record, "x"}, {record, "y"}, {seal, ""}}, "b", []string{"x", "y"}, false},
	{"records behind the seal", []part{{base, "b"}, {seal, ""}, {record, "x"}, {record, "x"}}, "b", []string{"x", "x"}, false},
	{"records on both sides", []part{{base, "b"}, {record, "x"}, {seal, ""}, {record, "y"}}, "b", []string{"x", "y"}, false},
	{"a seal with a payload", []part{{base, "b"}, {record, "x"}, {seal, "seal"}, {record, "y"}}, "b", []string{"x", "y"}, false},
	{"a second seal", []part{{base, "b"}, {record, "x"}, {seal, ""}, {record, "y"}, {seal, ""}, {record, "z"}}, "b", []string{"x", "y"}, true},
	{"a second seal at once", []part{{base, "b"}, {seal, ""}, {seal, ""}}, "b", nil, true},
	{"a second base", []part{{base, "b"}, {seal, ""}, {record, "x"}, {base, "c"}, {seal, ""}}, "b", []string{"x"}, true},
	{"a frame of the kind 4", []part{{base, "b"}, {seal, ""}, {record, "x"}, {4, "y"}, {record, "z"}}, "b", []string{"x"}, true},
	{"a frame of the kind 255", []part{{base, "b"}, {seal, ""}, {255, "y"}}, "b", nil, true},
	{"a byte behind", []part{{base, "b"}, {seal, ""}, {record, "x"}, {0, "\x00"}}, "b", []string{"x"}, true},
	{"a mark behind", []part{{base, "b"}, {seal, ""}, {0, "\xa7"}}, "b", nil, true},
	{"a byte between records", []part{{base, "b"}, {seal, ""}, {record, "x"}, {0, "."}, {record, "y"}}, "b", []string{"x"}, true},
}

func TestP9_1WhatStandsInASegment(t *testing.T) {
	for _, c := range standing {
		for _, n := range []int{1, 2, 1000} {
			d := make1(t, 1000)
			b := bytesOf(c.parts...)
			ok(t, d.Append(n, b), d.Sync(n))
			wantOpen(t, c.what, d, c.text, c.recs...)
			if c.tail {
				wantOnly(t, c.what, d, n+1, laid(c.text, c.recs...))
				wantOpen(t, c.what+", once more", d, c.text, c.recs...)
				wantOnly(t, c.what+", once more", d, n+1, laid(c.text, c.recs...))
			} else {
				wantOnly(t, c.what, d, n, b)
			}
		}
	}
}

// A frame of the kind 0 is one of another kind, too.
func TestP9_1KindZero(t *testing.T) {
	d := make1(t, 1000)
	ok(t, d.Append(1, slices.Concat(laid("b", "x"), framed(0, "y"), framed(record, "z"))))
	wantOpen(t, "a frame of the kind 0", d, "b", "x")
	wantOnly(t, "a frame of the kind 0", d, 2, laid("b", "x"))
}

// nothings are segments in which nothing stands.
var nothings = []struct {
	what  string
	parts []part
}{
	{"no byte", nil},
	{"another byte", []part{{0, "x"}}},
	{"a base alone", []part{{base, "b"}}},
	{"a record alone", []part{{record, "x"}}},
	{"a seal alone", []part{{seal, ""}}},
	{"a seal and a base", []part{{seal, ""}, {base, "b"}}},
	{"a base and records", []part{{base, "b"}, {record, "x"}, {record, "y"}}},
	{"a record ahead of the base", []part{{record, "x"}, {base, "b"}, {seal, ""}}},
	{"a seal ahead of the base", []part{{seal, ""}, {base, "b"}, {seal, ""}}},
	{"two bases", []part{{base, "b"}, {base, "c"}, {seal, ""}}},
	{"two bases, a record between", []part{{base, "b"}, {record, "x"}, {base, "c"}, {seal, ""}}},
	{"a frame of the kind 4 ahead of the seal", []part{{base, "b"}, {4, "x"}, {seal, ""}}},
	{"a frame of the kind 4 ahead of the base", []part{{4, "x"}, {base, "b"}, {seal, ""}}},
	{"a byte ahead of the base", []part{{0, "x"}, {base, "b"}, {seal, ""}}},
	{"a byte ahead of the seal", []part{{base, "b"}, {record, "x"}, {0, "x"}, {seal, ""}}},
	{"a record and a seal", []part{{record, "x"}, {seal, ""}}},
}

func TestP9_1NothingStandsInASegment(t *testing.T) {
	for _, c := range nothings {
		for _, n := range []int{1, 7} {
			d := make1(t, 1000)
			ok(t, d.Append(n, bytesOf(c.parts...)), d.Sync(n))
			wantOpen(t, c.what, d, "")
			wantOnly(t, c.what, d, n+1, laid(""))
		}
	}
}

// All beginnings of a segment: nothing stands there as long as the seal isn't
// whole, then the whole records.
func TestP9_1TornSegment(t *testing.T) {
	head := laid("base", "x", "")
	all := slices.Concat(head, framed(record, "yy"), framed(record, "z"))
	for n := range len(all) + 1 {
		d := make1(t, 1000)
		ok(t, d.Append(1, all[:n]), d.Sync(1))
		first, recs := "base", []string{"x", ""}
		switch {
		case n < len(head):
			first, recs = "", nil
		case n == len(all):
			recs = append(recs, "yy", "z")
		case n >= len(head)+9+2:
			recs = append(recs, "yy")
		}
		wantOpen(t, "a torn segment", d, first, recs...)
		if n == len(head) || n == len(head)+9+2 || n == len(all) {
			wantOnly(t, "a torn segment", d, 1, all[:n])
		} else {
			wantOnly(t, "a torn segment", d, 2, laid(first, recs...))
		}
	}
}

// A fault in a frame ends what stands in the segment, though whole frames are
// behind it.
func TestP9_1FaultInASegment(t *testing.T) {
	all := slices.Concat(laid("base", "x"), framed(record, "y"), framed(record, "z"))
	sealed, second := len(laid("base", "x")), len(framed(record, "y"))
	for at := range all {
		d := make1(t, 1000)
		b := slices.Clone(all)
		b[at] ^= 0x40
		ok(t, d.Append(3, b), d.Sync(3))
		first, recs := "base", []string{"x", "y"}
		switch {
		case at < sealed:
			first, recs = "", nil
		case at < sealed+second:
			recs = recs[:1]
		}
		wantOpen(t, "a segment with a fault", d, first, recs...)
		wantOnly(t, "a segment with a fault", d, 4, laid(first, recs...))
	}
}

func TestP9_1FromTheGreatestNumberOn(t *testing.T) {
	older, newer, torn := laid("old", "x"), slices.Concat(laid("new", "y"), framed(record, "z")), laid("torn", "t")
	torn = torn[:len(torn)-1]
	for _, c := range []struct {
		what string
		segs map[int][]byte
		text string
		recs []string
		next int
	}{
		{"two whole ones", map[int][]byte{1: older, 2: newer}, "new", []string{"y", "z"}, 3},
		{"two whole ones, the other way", map[int][]byte{1: newer, 2: older}, "old", []string{"x"}, 3},
		{"numbers far apart", map[int][]byte{9: older, 500: newer}, "new", []string{"y", "z"}, 501},
		{"a torn one behind a whole one", map[int][]byte{1: older, 2: torn}, "old", []string{"x"}, 3},
		{"a torn one ahead of a whole one", map[int][]byte{1: torn, 2: older}, "old", []string{"x"}, 3},
		{"an empty one behind a whole one", map[int][]byte{4: newer, 5: nil}, "new", []string{"y", "z"}, 6},
		{"an empty one ahead of a whole one", map[int][]byte{4: nil, 5: newer}, "new", []string{"y", "z"}, 6},
		{"torn ones behind whole ones", map[int][]byte{2: older, 3: newer, 5: torn, 8: torn[:3], 11: nil}, "new", []string{"y", "z"}, 12},
		{"torn ones", map[int][]byte{3: torn, 4: torn[:20], 6: torn[:1]}, "", nil, 7},
		{"an empty base behind a full one", map[int][]byte{1: newer, 2: laid("")}, "", nil, 3},
	} {
		d := make1(t, 1000)
		for n, b := range c.segs {
			ok(t, d.Append(n, b), d.Sync(n))
		}
		w := wantOpen(t, c.what, d, c.text, c.recs...)
		wantOnly(t, c.what, d, c.next, laid(c.text, c.recs...))
		ok(t, w.Append([]byte("more")))
		wantRead(t, c.what, d, c.next, append(laid(c.text, c.recs...), framed(record, "more")...))
	}
}

// The log goes on in the segment that is there, or in the one that is laid.
func TestP9_1TheLogsSegment(t *testing.T) {
	d := make1(t, 1000)
	ok(t, d.Append(5, laid("b", "x")))
	ok(t, wantOpen(t, "a whole segment", d, "b", "x").Append([]byte("y")))
	wantRead(t, "a whole segment", d, 5, append(laid("b", "x"), framed(record, "y")...))
	ok(t, d.Append(5, []byte("tail")))
	ok(t, wantOpen(t, "a torn segment", d, "b", "x", "y").Append([]byte("z")))
	wantRead(t, "a torn segment", d, 6, append(laid("b", "x", "y"), framed(record, "z")...))
	wantSegs(t, "a torn segment", d, 6)
}

// A segment that is whole, and the only one, isn't written at all.
func TestP9_1OpenOfAWholeSegmentTakesNoStep(t *testing.T) {
	d := make1(t, 1000)
	ok(t, d.Append(1, laid("b", "x")), d.Sync(1), d.Append(1, framed(record, "y")), d.Fuse(0))
	wantOpen(t, "a whole segment, by a fuse 0", d, "b", "x", "y")
	if d.Down() {
		t.Error("Open of a whole segment took a step")
	}
	ok(t, d.Crash(nil))
	wantOpen(t, "what lasted", d, "b", "x")
}

// The steps by which a segment is laid, one by one.
func TestP9_1LayStepByStep(t *testing.T) {
	older, torn := laid("b", "x"), []byte("torn")
	next := laid("b", "x")
	for fuse, after := range []map[int][]byte{
		{2: older, 4: torn, 7: torn},
		{2: older, 4: torn, 7: torn}, // appended, but nothing of it lasts
		{2: older, 4: torn, 7: torn, 8: next},
		{4: torn, 7: torn, 8: next},
		{7: torn, 8: next},
	} {
		d := make1(t, 1000)
		for n, b := range map[int][]byte{2: older, 4: torn, 7: torn} {
			ok(t, d.Append(n, b), d.Sync(n))
		}
		ok(t, d.Fuse(fuse))
		refuseOpen(t, "a disk with a fuse", d, api.ErrDown)
		refuseOpen(t, "a disk without power", d, api.ErrDown)
		ok(t, d.Crash(nil))
		l, _ := d.Segs()
		if len(l) != len(after) {
			t.Errorf("by a fuse %d: the segments %v", fuse, l)
		}
		for n, b := range after {
			wantRead(t, "what was cut off", d, n, b)
		}
	}
	d := make1(t, 1000)
	ok(t, d.Append(2, older), d.Append(4, torn), d.Append(7, torn), d.Fuse(5))
	wantOpen(t, "a disk with a fuse that suffices", d, "b", "x")
	wantOnly(t, "a disk with a fuse that suffices", d, 8, next)
}

// What is laid is appended at once: no step more than the others by any count
// of records.
func TestP9_1LayAtOnce(t *testing.T) {
	var recs []string
	d := make1(t, 10000)
	ok(t, d.Append(1, laid("b")))
	for i := range 200 {
		recs = append(recs, string(rune('a'+i%20)))
		ok(t, d.Append(1, framed(record, recs[i])))
	}
	ok(t, d.Append(1, []byte{0}), d.Fuse(3))
	wantOpen(t, "many records", d, "b", recs...)
	wantOnly(t, "many records", d, 2, laid("b", recs...))
}

func TestP9_1OpenErrors(t *testing.T) {
	refuseOpen(t, "no disk", nil, api.ErrNil)
	d := make1(t, 1000)
	ok(t, d.Append(1, laid("b", "x")), d.Sync(1), d.Fuse(0))
	want(t, "Append by a fuse 0", d.Append(1, nil), api.ErrDown)
	refuseOpen(t, "a disk without power", d, api.ErrDown)
	ok(t, d.Crash(nil))
	wantOpen(t, "a disk with power again", d, "b", "x")
}

func TestP9_1OpenOfAFullDisk(t *testing.T) {
	size := len(laid(""))
	refuseOpen(t, "a disk without room", make1(t, 0), api.ErrFull)
	d := make1(t, size-1)
	refuseOpen(t, "a disk with too little room", d, api.ErrFull)
	wantSegs(t, "a disk with too little room", d)
	d = make1(t, size)
	wantOpen(t, "a disk with as much room as it takes", d, "")
	wantOnly(t, "a disk with as much room as it takes", d, 1, laid(""))

	b := append(laid("b", "x"), 0)
	for _, more := range []int{-1, 0} {
		d = make1(t, len(b)+len(laid("b", "x"))+more)
		ok(t, d.Append(1, b), d.Sync(1))
		if more < 0 {
			refuseOpen(t, "a torn segment, too little room", d, api.ErrFull)
			wantOnly(t, "a torn segment, too little room", d, 1, b)
		} else {
			wantOpen(t, "a torn segment, just as much room", d, "b", "x")
			wantOnly(t, "a torn segment, just as much room", d, 2, laid("b", "x"))
		}
	}
	d = make1(t, len(laid("b")))
	ok(t, d.Append(1, laid("b")))
	wantOpen(t, "a whole segment, no room beside", d, "b")
}

func TestP9_1OpenOfTooManySegments(t *testing.T) {
	for _, n := range []int{maxSegs - 1, maxSegs} {
		d := make1(t, 10000)
		for i := range n {
			ok(t, d.Append(i+1, nil), d.Sync(i+1))
		}
		ok(t, d.Append(5, laid("b", "x")), d.Sync(5))
		if n == maxSegs {
			refuseOpen(t, "as many segments as there may be", d, api.ErrFull)
			if l, _ := d.Segs(); len(l) != n {
				t.Errorf("%d segments, want %d", len(l), n)
			}
		} else {
			wantOpen(t, "one segment fewer than there may be", d, "b", "x")
			wantOnly(t, "one segment fewer than there may be", d, n+1, laid("b", "x"))
		}
	}
}

// There is no segment behind the greatest number.
func TestP9_1GreatestNumber(t *testing.T) {
	const last = math.MaxInt
	d := make1(t, 1000)
	ok(t, d.Append(last-1, append(laid("b", "x"), 0)))
	wantOpen(t, "a torn segment of the last number but one", d, "b", "x")
	wantOnly(t, "a torn segment of the last number but one", d, last, laid("b", "x"))
	w := wantOpen(t, "a whole segment of the last number", d, "b", "x")
	ok(t, w.Append([]byte("y")), w.Sync())
	want(t, "Rebase behind the last number", w.Rebase([]byte("c")), api.ErrArg)
	ok(t, w.Append([]byte("z")), w.Sync())
	all := slices.Concat(laid("b", "x"), framed(record, "y"), framed(record, "z"))
	wantOnly(t, "what couldn't be rebased", d, last, all)
	ok(t, d.Append(last, []byte{0}), d.Sync(last))
	refuseOpen(t, "a torn segment of the last number", d, api.ErrArg)
	wantOnly(t, "a torn segment of the last number", d, last, append(all, 0))
}

func TestP9_2Append(t *testing.T) {
	d := make1(t, 1000)
	w := wantOpen(t, "an empty disk", d, "")
	all := laid("")
	for _, p := range []string{"a", "", "\xa7\x03\x00", "a"} {
		ok(t, w.Append([]byte(p)))
		all = append(all, framed(record, p)...)
		wantRead(t, "a log", d, 1, all)
	}
	ok(t, w.Append(nil))
	all = append(all, framed(record, "")...)
	wantRead(t, "a log", d, 1, all)
	wantSegs(t, "a log", d, 1)
	wantOpen(t, "a log", d, "", "a", "", "\xa7\x03\x00", "a", "")
}

func TestP9_2AppendAlone(t *testing.T) {
	d := make1(t, 1000)
	w := wantOpen(t, "an empty disk", d, "")
	ok(t, d.Fuse(1), w.Append([]byte("a")))
	want(t, "a second Append by a fuse 1", w.Append([]byte("b")), api.ErrDown)
	want(t, "Append without power", w.Append([]byte("b")), api.ErrDown)
	ok(t, d.Crash(nil))
	wantRead(t, "what isn't synced", d, 1, laid(""))
}

func TestP9_2Sync(t *testing.T) {
	d := make1(t, 1000)
	w := wantOpen(t, "an empty disk", d, "")
	ok(t, w.Append([]byte("a")), w.Append([]byte("b")), d.Fuse(1), w.Sync())
	want(t, "a second Sync by a fuse 1", w.Sync(), api.ErrDown)
	want(t, "Sync without power", w.Sync(), api.ErrDown)
	ok(t, d.Crash(nil))
	wantRead(t, "what is synced", d, 1, laidAnd("", "a", "b"))
	w = wantOpen(t, "what is synced", d, "", "a", "b")
	ok(t, w.Sync(), w.Append([]byte("c")), d.Crash([]int{3}))
	wantOpen(t, "a torn record", d, "", "a", "b")
}

// laidAnd is a segment that was laid with a base, and got records since.
func laidAnd(first string, recs ...string) []byte {
	b := laid(first)
	for _, p := range recs {
		b = append(b, framed(record, p)...)
	}
	return b
}

func TestP9_2Rebase(t *testing.T) {
	d := make1(t, 1000)
	w := wantOpen(t, "an empty disk", d, "")
	ok(t, w.Append([]byte("a")), w.Rebase([]byte("c")))
	wantOnly(t, "a new base", d, 2, laid("c"))
	ok(t, w.Append([]byte("d")), w.Sync())
	wantOnly(t, "a record behind it", d, 2, laidAnd("c", "d"))
	wantOpen(t, "a new base", d, "c", "d")
	ok(t, w.Rebase(nil))
	wantOnly(t, "an empty base", d, 3, laid(""))
	ok(t, w.Rebase([]byte("e")), w.Rebase([]byte("f")))
	wantOnly(t, "bases one behind the other", d, 5, laid("f"))
	wantOpen(t, "bases one behind the other", d, "f")
}

// The steps of Rebase: an Append of both frames at once, a Sync, a Drop.
func TestP9_2RebaseStepByStep(t *testing.T) {
	older, next := laidAnd("", "a"), laid("c")
	for fuse := range 4 {
		d := make1(t, 1000)
		w := wantOpen(t, "an empty disk", d, "")
		ok(t, w.Append([]byte("a")), w.Sync(), d.Fuse(fuse))
		if fuse == 3 {
			ok(t, w.Rebase([]byte("c")))
			wantOnly(t, "a new base", d, 2, next)
			continue
		}
		want(t, "Rebase by a fuse", w.Rebase([]byte("c")), api.ErrDown)
		want(t, "Append without power", w.Append(nil), api.ErrDown)
		ok(t, d.Crash([]int{0, 1000}))
		if fuse == 0 {
			wantSegs(t, "Rebase by a fuse 0", d, 1)
		} else {
			wantSegs(t, "Rebase that was cut off", d, 1, 2)
			wantRead(t, "Rebase that was cut off", d, 2, next)
		}
		wantRead(t, "Rebase that was cut off", d, 1, older)
	}
}

// The new segment lasts as soon as the old one is gone, and isn't asked for
// earlier.
func TestP9_2RebaseSyncsAheadOfDrop(t *testing.T) {
	d := make1(t, 1000)
	w := wantOpen(t, "an empty disk", d, "")
	ok(t, w.Append([]byte("a")), w.Sync(), d.Fuse(2))
	want(t, "Rebase by a fuse 2", w.Rebase([]byte("c")), api.ErrDown)
	ok(t, d.Crash(nil))
	wantSegs(t, "Rebase by a fuse 2", d, 1, 2)
	wantRead(t, "Rebase by a fuse 2", d, 2, laid("c"))
	wantOpen(t, "Rebase by a fuse 2", d, "c")
	wantOnly(t, "Rebase by a fuse 2", d, 3, laid("c"))
}

// The segment behind is the log's as soon as its frames are appended.
func TestP9_2RebaseMovesTheLog(t *testing.T) {
	for fuse, n := range []int{1, 2, 2} {
		d := make1(t, 1000)
		w := wantOpen(t, "an empty disk", d, "")
		ok(t, d.Fuse(fuse))
		want(t, "Rebase by a fuse", w.Rebase([]byte("c")), api.ErrDown)
		ok(t, d.Crash([]int{0, 1000}), w.Append([]byte("d")))
		first := ""
		if n == 2 {
			first = "c"
		}
		wantRead(t, "Rebase by a fuse", d, n, laidAnd(first, "d"))
	}
}

func TestP9_2RebaseOfAFullDisk(t *testing.T) {
	older, next := laidAnd("", "a"), laid("c")
	d := make1(t, len(older)+len(next)-1)
	w := wantOpen(t, "an empty disk", d, "")
	ok(t, w.Append([]byte("a")), w.Sync())
	for range 2 {
		want(t, "Rebase with too little room", w.Rebase([]byte("c")), api.ErrFull)
		wantOnly(t, "Rebase with too little room", d, 1, older)
	}
	ok(t, w.Append(nil))
	wantRead(t, "Append behind that", d, 1, append(older, framed(record, "")...))

	d = make1(t, len(older)+len(next))
	w = wantOpen(t, "an empty disk", d, "")
	ok(t, w.Append([]byte("a")), w.Sync(), w.Rebase([]byte("c")))
	wantOnly(t, "Rebase with just as much room", d, 2, next)
}

// What a refused Rebase didn't change: the base and the records are the log's
// on, and a smaller base is put in their place.
func TestP9_2FullChangesNothing(t *testing.T) {
	d := make1(t, 100)
	w := wantOpen(t, "an empty disk", d, "")
	ok(t, w.Append([]byte("0123456789")))
	used := d.Used()
	want(t, "Append of too much", w.Append(make([]byte, 100-used-8)), api.ErrFull)
	want(t, "Rebase of too much", w.Rebase(make([]byte, 100-used-17)), api.ErrFull)
	if d.Used() != used {
		t.Errorf("%d bytes, want %d", d.Used(), used)
	}
	wantRead(t, "a full disk", d, 1, laidAnd("", "0123456789"))
	base := make([]byte, 100-used-18)
	ok(t, w.Rebase(base))
	wantOnly(t, "a new base, just as long as can be", d, 2, laid(string(base)))
}

func TestP9_2RebaseOfTooManySegments(t *testing.T) {
	d := make1(t, 1000)
	w := wantOpen(t, "an empty disk", d, "")
	for i := range maxSegs - 1 {
		ok(t, d.Append(i+10, nil))
	}
	want(t, "Rebase with as many segments as there may be", w.Rebase([]byte("c")), api.ErrFull)
	ok(t, w.Append([]byte("a")))
	wantRead(t, "what couldn't be rebased", d, 1, laidAnd("", "a"))
}

func TestP9_2Errors(t *testing.T) {
	long := make([]byte, maxPayload+1)
	for _, down := range []bool{false, true} {
		d := make1(t, maxRoom)
		w := wantOpen(t, "an empty disk", d, "")
		if down {
			ok(t, d.Fuse(0))
			want(t, "a Sync by a fuse 0", w.Sync(), api.ErrDown)
		}
		// What is too long is told ahead of the disk's errors.
		for _, n := range []int{maxPayload + 1, maxPayload + 100, 1 << 24, 1<<24 + 1} {
			p := make([]byte, n)
			want(t, "Append of too much", w.Append(p), api.ErrLimit)
			want(t, "Rebase of too much", w.Rebase(p), api.ErrLimit)
		}
		if down {
			want(t, "Append without power", w.Append(long[1:]), api.ErrDown)
			want(t, "Rebase without power", w.Rebase(long[1:]), api.ErrDown)
			want(t, "Sync without power", w.Sync(), api.ErrDown)
			ok(t, d.Crash(nil))
		}
		wantOnly(t, "what was refused", d, 1, laid(""))
	}
}

// A record that is too long is told so ahead of the full disk, too, and takes
// nothing of the fuse.
func TestP9_2LimitAheadOfFullAndFuse(t *testing.T) {
	d := make1(t, len(laid("")))
	w := wantOpen(t, "an empty disk", d, "")
	long := make([]byte, maxPayload+1)
	ok(t, d.Fuse(0))
	want(t, "Append of too much", w.Append(long), api.ErrLimit)
	want(t, "Rebase of too much", w.Rebase(long), api.ErrLimit)
	want(t, "Append behind the room's end", w.Append(nil), api.ErrFull)
	want(t, "Rebase behind the room's end", w.Rebase(nil), api.ErrFull)
	if d.Down() {
		t.Error("a refused call took a step")
	}
}

func TestP9_2AsLongAsCanBe(t *testing.T) {
	dice := dice(9)
	p := make([]byte, maxPayload)
	for i := range p {
		p[i] = byte(dice.next() >> 40)
	}
	text := string(p)
	d := make1(t, maxRoom)
	w := wantOpen(t, "an empty disk", d, "")
	ok(t, w.Append(p), w.Sync(), d.Crash(nil))
	wantOpen(t, "a long record", d, "", text)
	ok(t, w.Rebase(p), w.Append(p), w.Append(p), d.Crash([]int{2*maxPayload + 17}))
	wantOpen(t, "a long base, and a long record", d, text, text)
	wantOnly(t, "a long base, and a long record", d, 3, laid(text, text))
}

// The steps of a log are the disk's: its errors are answered.
func TestP9_2TheDisksErrors(t *testing.T) {
	d := make1(t, 1000)
	w := wantOpen(t, "an empty disk", d, "")
	ok(t, d.Drop(1))
	want(t, "Sync of a segment that is gone", w.Sync(), api.ErrNone)
	want(t, "Rebase of a segment that is gone", w.Rebase([]byte("c")), api.ErrNone)
	wantOnly(t, "Rebase of a segment that is gone", d, 2, laid("c"))
	ok(t, w.Append([]byte("d")), w.Sync())
	wantOnly(t, "Append behind that", d, 2, laidAnd("c", "d"))
}

func TestR1Nil(t *testing.T) {
	var w *wal.Wal
	long := make([]byte, maxPayload+1)
	want(t, "Append to nil", w.Append([]byte("a")), api.ErrNil)
	want(t, "Append of too much to nil", w.Append(long), api.ErrNil)
	want(t, "Sync of nil", w.Sync(), api.ErrNil)
	want(t, "Rebase of nil", w.Rebase(nil), api.ErrNil)
	want(t, "Rebase of too much of nil", w.Rebase(long), api.ErrNil)
	refuseOpen(t, "nil", nil, api.ErrNil)
}

// Of logs and disks that weren't made by their calls it is promised only that
// nothing panics.
func TestR1OtherLogs(t *testing.T) {
	w := &wal.Wal{}
	for range 2 {
		w.Append(nil)
		w.Append(make([]byte, maxPayload+1))
		w.Sync()
		w.Rebase([]byte("x"))
	}
	wal.Open(&disk.Disk{})
	d := make1(t, 1000)
	v := *wantOpen(t, "an empty disk", d, "")
	u := v
	ok(t, v.Append([]byte("a")), v.Rebase([]byte("b")))
	u.Append([]byte("c"))
	u.Sync()
	u.Rebase([]byte("d"))
	wal.Open(d)
}

// Whatever bytes are on a disk, Open ends, and what it answers is what it
// answers when asked once more.
func TestR1AnyBytes(t *testing.T) {
	dice := dice(1)
	kinds := []byte{base, record, seal, seal, 0, 4}
	for range 3000 {
		d := make1(t, 4000)
		for n := range dice.below(4) + 1 {
			b := framed(base, "b")
			if dice.below(6) == 0 {
				b = nil
			}
			for range dice.below(6) {
				b = append(b, framed(kinds[dice.below(len(kinds))], string(dice.bytes(5)))...)
			}
			if dice.below(3) == 0 {
				b = append(b, dice.bytes(12)...)
			}
			if dice.below(5) == 0 && len(b) > 0 {
				b[dice.below(len(b))] ^= 1 << dice.below(8)
			}
			ok(t, d.Append(2*n+1, b))
		}
		_, first, recs, e := wal.Open(d)
		ok(t, e)
		wantOpen(t, "any bytes, once more", d, string(first), texts(recs)...)
	}
}

func TestR3AnswersAreNewMemory(t *testing.T) {
	d := make1(t, 1000)
	all := laidAnd("base", "one", "two", "six")
	ok(t, d.Append(1, all), d.Sync(1))
	_, first, recs, e := wal.Open(d)
	ok(t, e)
	lists := append(slices.Clone(recs), first)
	wants := []string{"one", "two", "six", "base"}
	for i, p := range lists {
		if string(p) != wants[i] {
			t.Errorf("%q, want %q", p, wants[i])
		}
		// Written up to the end of its room, it must leave the others alone.
		full := p[:cap(p)]
		for j := range full {
			full[j] = 0xee
		}
	}
	clear(recs[:cap(recs)])
	wantRead(t, "a disk of which answers were written", d, 1, all)
	wantOpen(t, "it", d, "base", "one", "two", "six")
}

func TestR3WhatIsHandedInIsLeftAlone(t *testing.T) {
	d := make1(t, 1000)
	w := wantOpen(t, "an empty disk", d, "")
	room := []byte("payload behind")
	p := room[:7]
	ok(t, w.Append(p))
	if string(room) != "payload behind" {
		t.Errorf("Append made it %q", room)
	}
	p[0] = 'X'
	wantOpen(t, "a record that was written since", d, "", "payload")
	p[0] = 'p'
	ok(t, w.Rebase(p))
	if string(room) != "payload behind" {
		t.Errorf("Rebase made it %q", room)
	}
	p[0] = 'X'
	wantOpen(t, "a base that was written since", d, "payload")
}

func TestR4NilIsEmpty(t *testing.T) {
	for _, p := range [][]byte{nil, {}} {
		d := make1(t, 1000)
		w := wantOpen(t, "an empty disk", d, "")
		ok(t, w.Append(p), w.Sync())
		wantOpen(t, "an empty record", d, "", "")
		ok(t, w.Rebase(p))
		wantOnly(t, "an empty base", d, 2, laid(""))
	}
}

// Two logs on two disks don't know of each other.
func TestR5LogsAreApart(t *testing.T) {
	c, d := make1(t, 1000), make1(t, 1000)
	v, w := wantOpen(t, "an empty disk", c, ""), wantOpen(t, "an empty disk", d, "")
	ok(t, v.Rebase([]byte("c")), v.Append([]byte("x")), w.Append([]byte("y")), w.Sync())
	wantSegs(t, "the first", c, 2)
	wantRead(t, "the first", c, 2, laidAnd("c", "x"))
	wantOnly(t, "the second", d, 1, laidAnd("", "y"))
}
