package wal_test

import (
	"slices"
	"strconv"
	"testing"

	"slackwater/api"
	"slackwater/disk"
	"slackwater/wal"
)

// Tests of P9.3: logs of which the power goes at any place.

// state is a base and records.
type state struct {
	first string
	recs  []string
}

// promise is what an Open behind a crash may answer: kept with none or more of
// the records since, or the bases of Rebases that were cut off.
type promise struct {
	kept  state
	since []string
	bases []string
}

// holds says whether a state may be answered.
func (p *promise) holds(s state) bool {
	if len(s.recs) == 0 && slices.Contains(p.bases, s.first) {
		return true
	}
	n, more := len(p.kept.recs), len(s.recs)-len(p.kept.recs)
	return s.first == p.kept.first && more >= 0 && more <= len(p.since) &&
		slices.Equal(s.recs[:n], p.kept.recs) && slices.Equal(s.recs[n:], p.since[:more])
}

// all is what an Open without a crash ahead answers.
func (p *promise) all() state {
	return state{p.kept.first, append(slices.Clone(p.kept.recs), p.since...)}
}

// settle takes a state as kept.
func (p *promise) settle(s state) {
	*p = promise{kept: s}
}

// act is a call of a log, noted in the promise; false if the power went.
func act(t *testing.T, w *wal.Wal, p *promise, call byte, text string) bool {
	t.Helper()
	var e api.Errno
	switch call {
	case 'a':
		if e = w.Append([]byte(text)); e == api.OK {
			p.since = append(p.since, text)
		}
	case 's':
		if e = w.Sync(); e == api.OK {
			p.settle(p.all())
		}
	case 'r':
		switch e = w.Rebase([]byte(text)); e {
		case api.OK:
			p.settle(state{first: text})
		case api.ErrDown:
			p.bases = append(p.bases, text)
		}
	}
	if e != api.OK && e != api.ErrDown {
		t.Fatalf("%c: error %d", call, e)
	}
	return e == api.OK
}

// reopen opens a disk behind a crash and holds that what is answered was
// promised; nil if the power went.
func reopen(t *testing.T, d *disk.Disk, p *promise) *wal.Wal {
	t.Helper()
	w, first, recs, e := wal.Open(d)
	switch e {
	case api.ErrDown:
		if w != nil || len(first)+len(recs) != 0 {
			t.Fatalf("Open: %v, %q, %q beside an error", w, first, recs)
		}
		return nil
	case api.OK:
	default:
		t.Fatalf("Open: error %d", e)
	}
	s := state{string(first), texts(recs)}
	if !p.holds(s) {
		t.Fatalf("Open: %q, want one of %q", s, *p)
	}
	if l, e := d.Segs(); len(l) != 1 || e != api.OK {
		t.Fatalf("Open leaves the segments %v, error %d", l, e)
	}
	p.settle(s)
	return w
}

// calls are what the tests below do to a log: a character a call, records and
// bases by their places.
const calls = "aasarasaarraas"

// run does the calls on an empty disk with a fuse, and answers the disk as the
// power is gone, or all is done, and what is promised then.
func run(t *testing.T, fuse int) (*disk.Disk, *promise, bool) {
	t.Helper()
	d, p := make1(t, 4000), &promise{}
	ok(t, d.Fuse(fuse))
	w := reopen(t, d, p)
	if w == nil {
		return d, p, false
	}
	for i := range len(calls) {
		if !act(t, w, p, calls[i], string(calls[i])+strconv.Itoa(i)) {
			return d, p, false
		}
	}
	return d, p, true
}

// loose is more bytes than a segment of these calls ever has that aren't
// synced.
const loose = 60

// The power goes at each step, and each segment is torn at each place.
func TestP9_3PowerGoesAtEachStep(t *testing.T) {
	for fuse := 0; ; fuse++ {
		done := false
		for torn := range loose {
			for _, keep := range [][]int{{torn}, {0, torn}, {loose, torn}} {
				d, p, whole := run(t, fuse)
				ok(t, d.Crash(keep))
				w := reopen(t, d, p)
				if w == nil || !act(t, w, p, 'a', "more") || !act(t, w, p, 's', "") {
					t.Fatal("the power went without a fuse")
				}
				ok(t, d.Crash(nil))
				reopen(t, d, p)
				done = whole
			}
		}
		if done {
			return
		}
	}
}

// The power goes at each step of Open, too, and at each step of the Open
// behind that: again and again.
func TestP9_3PowerGoesInOpenToo(t *testing.T) {
	for fuse := 0; ; fuse++ {
		done := false
		for second := range 6 {
			for third := range 6 {
				for torn := 0; torn < loose; torn += 7 {
					d, p, whole := run(t, fuse)
					done = whole
					ok(t, d.Crash([]int{torn, torn, torn}))
					for _, next := range []int{second, third} {
						ok(t, d.Fuse(next))
						reopen(t, d, p)
						ok(t, d.Crash([]int{torn, loose - torn, torn, loose}))
					}
					if reopen(t, d, p) == nil {
						t.Fatal("the power went without a fuse")
					}
				}
			}
		}
		if done {
			return
		}
	}
}

// Each tear of a segment that an Open was laying: what is answered is as it
// was.
func TestP9_3TornWhileLaid(t *testing.T) {
	before := append(laid("base", "one", "two"), "torn"...)
	for torn := range len(before) + 20 {
		for fuse := range 3 {
			d := make1(t, 1000)
			ok(t, d.Append(3, before), d.Sync(3), d.Fuse(fuse))
			refuseOpen(t, "a disk with a fuse", d, api.ErrDown)
			ok(t, d.Crash([]int{0, torn}))
			wantOpen(t, "what was torn while laid", d, "base", "one", "two")
		}
	}
}

// Each tear of a Rebase that was cut off: the old log, or the new base alone.
func TestP9_3TornRebase(t *testing.T) {
	size := len(laid("new"))
	for torn := range size + 2 {
		for fuse := range 4 {
			d := make1(t, 1000)
			w := wantOpen(t, "an empty disk", d, "")
			ok(t, w.Rebase([]byte("old")), w.Append([]byte("x")), w.Sync(), w.Append([]byte("y")), d.Fuse(fuse))
			e := api.ErrDown
			if fuse == 3 {
				e = api.OK
			}
			want(t, "Rebase by a fuse", w.Rebase([]byte("new")), e)
			keep := []int{0, torn}
			ok(t, d.Crash(keep))
			if fuse >= 2 || fuse == 1 && torn >= size {
				wantOpen(t, "a new base", d, "new")
			} else {
				wantOpen(t, "the old log", d, "old", "x")
			}
		}
	}
}

// What was appended, and not synced, is there behind a crash as far as whole
// records were kept, and stays there.
func TestP9_3WholeRecordsStay(t *testing.T) {
	for torn := range 40 {
		d := make1(t, 1000)
		w := wantOpen(t, "an empty disk", d, "")
		ok(t, w.Append([]byte("a")), w.Sync(), w.Append([]byte("bb")), w.Append([]byte("ccc")))
		ok(t, d.Crash([]int{torn}))
		recs := []string{"a"}
		if torn >= 11 {
			recs = append(recs, "bb")
		}
		if torn >= 11+12 {
			recs = append(recs, "ccc")
		}
		for range 3 {
			wantOpen(t, "what was kept", d, "", recs...)
			ok(t, d.Crash(nil))
		}
	}
}

// A record that is laid behind a tear is read: the tear is gone by Open.
func TestP9_3AppendBehindATear(t *testing.T) {
	for torn := range 12 {
		d := make1(t, 1000)
		w := wantOpen(t, "an empty disk", d, "")
		ok(t, w.Append([]byte("a")), w.Sync(), w.Append([]byte("bbb")), d.Crash([]int{torn}))
		w = wantOpen(t, "a tear", d, "", "a")
		ok(t, w.Append([]byte("c")), w.Sync(), d.Crash(nil))
		wantOpen(t, "a record behind a tear", d, "", "a", "c")
	}
}

// Examples of the chapter, in their words.
func TestP9_3Examples(t *testing.T) {
	d := make1(t, 1000)
	w := wantOpen(t, "an empty disk", d, "")
	ok(t, w.Append([]byte("a")), w.Sync(), w.Append([]byte("b")), d.Crash(nil))
	w = wantOpen(t, "the example", d, "", "a")
	ok(t, w.Rebase([]byte("c")), d.Crash(nil))
	wantOpen(t, "the example", d, "c")
}

// Logs by many throws: calls, fuses, crashes, tears, Opens without a crash
// between.
func TestP9_3ManyThrows(t *testing.T) {
	dice := dice(3)
	for range 3000 {
		d, p := make1(t, 20000), &promise{}
		w := reopen(t, d, p)
		for i := range 30 {
			if dice.below(6) == 0 {
				ok(t, d.Fuse(dice.below(8)))
			}
			text := strconv.Itoa(i) + string(dice.bytes(12))
			alive := act(t, w, p, "aaaassr"[dice.below(7)], text)
			if alive && dice.below(10) == 0 {
				alive = againOpen(t, d, p)
			}
			if !alive || dice.below(8) == 0 {
				w = crashed(t, d, p, &dice)
			}
		}
	}
}

// againOpen opens a log that is open: all is there, and nothing is settled by
// that.
func againOpen(t *testing.T, d *disk.Disk, p *promise) bool {
	t.Helper()
	_, first, recs, e := wal.Open(d)
	if s := p.all(); e == api.OK && (string(first) != s.first || !slices.Equal(texts(recs), s.recs)) {
		t.Fatalf("Open, once more: %q, %q, want %q", first, recs, s)
	}
	return e == api.OK
}

// crashed lets the power go till an Open is done.
func crashed(t *testing.T, d *disk.Disk, p *promise, dice *dice) *wal.Wal {
	t.Helper()
	for {
		keep := make([]int, dice.below(4))
		for i := range keep {
			keep[i] = dice.below(80) - 5
		}
		ok(t, d.Crash(keep))
		if dice.below(2) == 0 {
			ok(t, d.Fuse(dice.below(7)))
		}
		if w := reopen(t, d, p); w != nil {
			return w
		}
	}
}
