package view_test

import (
	"bytes"
	"encoding/hex"
	"math"
	"reflect"
	"slices"
	"strings"
	"testing"

	"slackwater/api"
	"slackwater/view"
	"slackwater/wire"
)

// Tests of P15.3: views as bytes.

func unhex(s string) []byte {
	b, err := hex.DecodeString(strings.ReplaceAll(s, " ", ""))
	if err != nil {
		panic(s)
	}
	return b
}

func put(v view.View) []byte {
	w := wire.New()
	view.Put(w, v)
	return w.Bytes()
}

// odd are views at the edges of all that may be laid and taken; few of them
// are right.
func odd() []view.View {
	l := []view.View{
		{}, {1, 0, nodes()}, {1, 0, nodes(0)}, {maxWall, 7, nodes(0, 1, 2, 3, 4, 5, 6, 7)}, {-1, -2, nodes(-3, -4)}, {2, 9, nodes(3, 3, 1)},
		{math.MinInt, math.MaxInt, nodes(math.MinInt, math.MaxInt, 0)}, {math.MaxInt, math.MinInt, nil}, {maxWall + 1, 8, make([]int, maxNodes)},
		{123, 124, nodes(-124, -125, 127, 128, -128, -129)},
	}
	for m := 1; m < 1<<maxNodes; m++ {
		l = append(l, view.View{Epoch: m * m * m, Primary: ofMask(m)[0], Members: ofMask(m)})
	}
	return l
}

func TestP15_3Bytes(t *testing.T) {
	for _, c := range []struct {
		v    view.View
		want string
	}{
		{view.View{}, "00 00 00"},
		{view.View{1, 0, nodes(0)}, "02 00 01 00"},
		{view.View{2, 1, nodes(1, 3)}, "04 02 02 02 06"},
		{view.View{300, 7, nodes(0, 5, 7)}, "f90258 0e 03 00 0a 0e"},
		{view.View{-1, -2, nodes(-3)}, "01 03 01 05"},
		{view.View{maxWall, 0, nil}, "ff8000000000000000 00 00"},
		{view.View{math.MaxInt, math.MinInt, nodes(124, -1)}, "fffffffffffffffffe ffffffffffffffffff 02 f8f8 01"},
		{view.View{1, 0, make([]int, 9)}, "02 00 09 000000000000000000"},
		{view.View{1, 0, make([]int, 247)}, "02 00 f7" + strings.Repeat("00", 247)},
		{view.View{1, 0, make([]int, 248)}, "02 00 f8f8" + strings.Repeat("00", 248)},
	} {
		if got := put(c.v); !bytes.Equal(got, unhex(c.want)) {
			t.Errorf("Put of %v: %x, want %s", c.v, got, c.want)
		}
	}
}

// A view is laid behind what was laid, and all else behind it.
func TestP15_3PutBehind(t *testing.T) {
	w := wire.New()
	w.Num(256)
	view.Put(w, view.View{Epoch: 2, Primary: 1, Members: nodes(1, 3)})
	view.Put(w, view.View{Epoch: 1, Members: nodes(0)})
	w.Text("ab")
	if got := w.Bytes(); !bytes.Equal(got, unhex("f90100 0402020206 02000100 026162")) {
		t.Errorf("%x", got)
	}
}

func TestP15_3PutLeavesTheView(t *testing.T) {
	room := nodes(0, 1, 2, 3)
	put(view.View{Epoch: 1, Primary: 1, Members: room[1:3]})
	if !slices.Equal(room, nodes(0, 1, 2, 3)) {
		t.Errorf("what was handed in: %v", room)
	}
}

func TestP15_3Taken(t *testing.T) {
	for _, v := range odd() {
		b := put(v)
		r := wire.Read(b)
		if got := view.Get(r); !sameView(got, v) || r.End() != api.OK {
			t.Errorf("Get of %x: %v, error %d, want %v", b, got, r.End(), v)
		}
	}
}

// A reader stands behind the view that was taken.
func TestP15_3TakenOneByOne(t *testing.T) {
	w := wire.New()
	w.Text("ab")
	for _, v := range odd() {
		view.Put(w, v)
		w.Int(int64(-v.Primary / 2))
	}
	r := wire.Read(w.Bytes())
	if s := r.Text(2); s != "ab" {
		t.Errorf("Text: %q", s)
	}
	for _, v := range odd() {
		if got, n := view.Get(r), r.Int(); !sameView(got, v) || n != int64(-v.Primary/2) {
			t.Fatalf("%v, and then %d: want %v", got, n, v)
		}
	}
	if e := r.End(); e != api.OK {
		t.Errorf("End: error %d", e)
	}
}

// wantGetError holds that no view is taken; the reader keeps why.
func wantGetError(t *testing.T, what string, b []byte, want api.Errno) {
	t.Helper()
	r := wire.Read(b)
	for range 2 {
		if v := view.Get(r); !reflect.DeepEqual(v, view.View{}) || r.Err() != want {
			t.Errorf("Get of %s (%x): %v, error %d, want error %d", what, b, v, r.Err(), want)
		}
	}
}

func TestP15_3Short(t *testing.T) {
	for _, v := range odd() {
		b := put(v)
		for n := range b {
			wantGetError(t, "a part of a view", b[:n], api.ErrShort)
		}
	}
	wantGetError(t, "a view without its members", unhex("02 00 08"), api.ErrShort)
}

func TestP15_3Form(t *testing.T) {
	for _, b := range []string{
		"f802 00 01 00", "02 f800 01 00", "02 00 f801 00", "02 00 01 f800", "02 00 02 00 f900ff", "02 00 f90008", "ff0000000000000002 00 00",
		"f802 f800 f809", // the first of all
	} {
		wantGetError(t, "a number that could be shorter", unhex(b), api.ErrForm)
	}
}

func TestP15_3Limit(t *testing.T) {
	for _, n := range []int{9, 10, 247, 248, 1000} {
		wantGetError(t, "too many members", put(view.View{Epoch: 1, Members: make([]int, n)}), api.ErrLimit)
	}
	wantGetError(t, "too many members, none of them there", unhex("02 00 09"), api.ErrLimit)
	wantGetError(t, "the greatest number", unhex("02 00 ffffffffffffffffff"), api.ErrLimit)
}

// A reader that has an error gives no view, and keeps the error.
func TestP15_3ReaderWithAnError(t *testing.T) {
	b := put(view.View{Epoch: 1, Members: nodes(0)})
	for want, r := range map[api.Errno]*wire.Reader{
		api.ErrForm:  wire.Read(slices.Concat(unhex("f801"), b)),
		api.ErrLimit: wire.Read(slices.Concat(unhex("09"), b)),
	} {
		r.Count(8)
		if v := view.Get(r); !reflect.DeepEqual(v, view.View{}) || r.Err() != want {
			t.Errorf("Get: %v, error %d, want error %d", v, r.Err(), want)
		}
	}
	r := wire.Read(b)
	r.End()
	if v := view.Get(r); !reflect.DeepEqual(v, view.View{}) || r.Err() != api.ErrForm {
		t.Errorf("Get behind End: %v, error %d", v, r.Err())
	}
}

func TestP15_3NilWriterAndReader(t *testing.T) {
	view.Put(nil, view.View{Epoch: 1, Members: nodes(0)})
	if v := view.Get(nil); !reflect.DeepEqual(v, view.View{}) {
		t.Errorf("Get of a nil reader: %v", v)
	}
}

// A view that was taken shares nothing with the bytes, nor with another one.
func TestP15_3TakenApart(t *testing.T) {
	v := view.View{Epoch: 1, Primary: 1, Members: nodes(0, 1, 2)}
	b := slices.Concat(put(v), put(v))
	kept := bytes.Clone(b)
	r := wire.Read(b)
	first, second := view.Get(r), view.Get(r)
	l := first.Members[:cap(first.Members)]
	for i := range l {
		l[i] = 9
	}
	if !sameView(second, v) || !bytes.Equal(b, kept) {
		t.Errorf("%v, %x", second, b)
	}
}

// Whatever the bytes: what is taken, laid again, is those bytes; and Get ends.
func TestP15_3AnyBytes(t *testing.T) {
	d := dice(1)
	heads := []byte{0, 0, 1, 2, 3, 4, 8, 9, 247, 248, 249, 255}
	taken := 0
	for range 200000 {
		b := make([]byte, d.below(14))
		for i := range b {
			b[i] = heads[d.below(len(heads))]
		}
		r := wire.Read(b)
		v := view.Get(r)
		if r.Err() != api.OK {
			if !reflect.DeepEqual(v, view.View{}) {
				t.Fatalf("Get of %x: %v, error %d", b, v, r.Err())
			}
			continue
		}
		taken++
		if again := put(v); !bytes.HasPrefix(b, again) || (r.End() == api.OK) != (len(again) == len(b)) {
			t.Fatalf("Get of %x: %v, which is %x", b, v, again)
		}
	}
	if taken < 1000 {
		t.Errorf("only %d views were taken", taken)
	}
}
