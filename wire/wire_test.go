package wire_test

import (
	"bytes"
	"encoding/binary"
	"encoding/hex"
	"math"
	"slices"
	"strings"
	"testing"

	"slackwater/api"
	"slackwater/stamp"
	"slackwater/wire"
)

// dice throws the same numbers in each run.
type dice uint64

func (d *dice) next() uint64 {
	*d = *d*6364136223846793005 + 1442695040888963407
	x := uint64(*d)
	return x ^ x>>29
}

func (d *dice) below(n int) int { return int(d.next() >> 8 % uint64(n)) }

// num is a number of any length.
func (d *dice) num() uint64 { return d.next() >> d.below(64) }

// edges are numbers at which the form changes, rising.
func edges() []uint64 {
	ns := []uint64{0, 1, 246, 247, 248, 249, 255}
	for k := 1; k < 8; k++ {
		p := uint64(1) << (8 * k)
		ns = append(ns, p, p+1, p<<7, p<<8-1)
	}
	slices.Sort(ns)
	return slices.Compact(ns)
}

func unhex(t *testing.T, s string) []byte {
	t.Helper()
	b, err := hex.DecodeString(strings.ReplaceAll(s, " ", ""))
	if err != nil {
		t.Fatal(err)
	}
	return b
}

func laid(do func(w *wire.Writer)) []byte {
	w := wire.New()
	do(w)
	return w.Bytes()
}

func num(n uint64) []byte { return laid(func(w *wire.Writer) { w.Num(n) }) }

func wantLaid(t *testing.T, what, want string, do func(w *wire.Writer)) {
	t.Helper()
	if got := laid(do); !bytes.Equal(got, unhex(t, want)) {
		t.Errorf("%s: %x, want %s", what, got, want)
	}
}

func TestP3_1NumBytes(t *testing.T) {
	for n, want := range map[uint64]string{
		0:              "00",
		1:              "01",
		246:            "f6",
		247:            "f7",
		248:            "f8 f8",
		255:            "f8 ff",
		256:            "f9 0100",
		65535:          "f9 ffff",
		65536:          "fa 010000",
		0x123456:       "fa 123456",
		1<<24 - 1:      "fa ffffff",
		1 << 24:        "fb 01000000",
		1<<32 - 1:      "fb ffffffff",
		1 << 32:        "fc 0100000000",
		1<<40 - 1:      "fc ffffffffff",
		1 << 40:        "fd 010000000000",
		1<<48 - 1:      "fd ffffffffffff",
		1 << 48:        "fe 01000000000000",
		1<<56 - 1:      "fe ffffffffffffff",
		1 << 56:        "ff 0100000000000000",
		1 << 63:        "ff 8000000000000000",
		math.MaxUint64: "ff ffffffffffffffff",
	} {
		wantLaid(t, "Num", want, func(w *wire.Writer) { w.Num(n) })
	}
}

func TestP3_1IntBytes(t *testing.T) {
	for n, want := range map[int64]string{
		0:             "00",
		-1:            "01",
		1:             "02",
		-2:            "03",
		2:             "04",
		123:           "f6",
		-124:          "f7",
		124:           "f8 f8",
		-125:          "f8 f9",
		127:           "f8 fe",
		-128:          "f8 ff",
		128:           "f9 0100",
		-129:          "f9 0101",
		math.MaxInt32: "fb fffffffe",
		math.MinInt32: "fb ffffffff",
		math.MaxInt64: "ff fffffffffffffffe",
		math.MinInt64: "ff ffffffffffffffff",
	} {
		wantLaid(t, "Int", want, func(w *wire.Writer) { w.Int(n) })
	}
}

func TestP3_1FlagTextStampBytes(t *testing.T) {
	wantLaid(t, "Flag(true)", "01", func(w *wire.Writer) { w.Flag(true) })
	wantLaid(t, "Flag(false)", "00", func(w *wire.Writer) { w.Flag(false) })
	wantLaid(t, "Text()", "00", func(w *wire.Writer) { w.Text("") })
	wantLaid(t, "Text", "05 6100ffc3a4", func(w *wire.Writer) { w.Text("a\x00\xff\u00e4") })
	for n, head := range map[int]string{247: "f7", 248: "f8f8", 256: "f90100", 70000: "fa011170"} {
		s := strings.Repeat("x", n)
		wantLaid(t, "Text", head+strings.Repeat("78", n), func(w *wire.Writer) { w.Text(s) })
	}
	wantLaid(t, "Stamp", "4000000000000000 fffffffe 00000003", func(w *wire.Writer) {
		w.Stamp(api.Stamp{Wall: 1 << 62, Tick: 1<<32 - 2, Mark: 3})
	})
	wantLaid(t, "Stamp", "0102030405060708 090a0b0c 0d0e0f10", func(w *wire.Writer) {
		w.Stamp(api.Stamp{Wall: 0x0102030405060708, Tick: 0x090a0b0c, Mark: 0x0d0e0f10})
	})
}

func TestP3_1EachBehindTheOther(t *testing.T) {
	if b := wire.New().Bytes(); len(b) != 0 {
		t.Errorf("a new writer's bytes: %x", b)
	}
	wantLaid(t, "all", "f90100 01 026162 01 0000000000000007000000080000000900 00", func(w *wire.Writer) {
		w.Num(256)
		w.Int(-1)
		w.Text("ab")
		w.Flag(true)
		w.Stamp(api.Stamp{Wall: 7, Tick: 8, Mark: 9})
		w.Flag(false)
		w.Text("")
	})
}

func TestP3_1BytesAreNewMemory(t *testing.T) {
	w := wire.New()
	w.Num(1)
	for i := range 40 {
		b := w.Bytes()
		want := bytes.Clone(b)
		full := b[:cap(b)]
		for j := range full {
			full[j] = 0xee
		}
		if got := w.Bytes(); !bytes.Equal(got, want) {
			t.Fatalf("after its answer was written over: %x, want %x", got, want)
		}
		b = w.Bytes()
		w.Num(uint64(i))
		if got := w.Bytes(); !bytes.Equal(b, want) || !bytes.Equal(got, append(want, byte(i))) {
			t.Fatalf("after %d was laid: %x and %x", i, b, got)
		}
	}
}

func TestP3_1WritersAreApart(t *testing.T) {
	v, w := wire.New(), wire.New()
	v.Num(1)
	w.Num(2)
	v.Num(3)
	if b, c := v.Bytes(), w.Bytes(); string(b) != "\x01\x03" || string(c) != "\x02" {
		t.Errorf("%x, %x", b, c)
	}
}

func TestP3_1NilWriter(t *testing.T) {
	var w *wire.Writer
	w.Num(1)
	w.Int(-1)
	w.Flag(true)
	w.Text("a")
	w.Stamp(api.Stamp{Wall: 1})
	if b := w.Bytes(); len(b) != 0 {
		t.Errorf("a nil writer's bytes: %x", b)
	}
}

// take is one of a reader's calls; its answer is told as a value that can be
// held against another one.
type take struct {
	name string
	call func(r *wire.Reader) any
	zero any
}

func takes(most int) []take {
	return []take{
		{"Num", func(r *wire.Reader) any { return r.Num() }, uint64(0)},
		{"Int", func(r *wire.Reader) any { return r.Int() }, int64(0)},
		{"Flag", func(r *wire.Reader) any { return r.Flag() }, false},
		{"Count", func(r *wire.Reader) any { return r.Count(most) }, 0},
		{"Text", func(r *wire.Reader) any { return r.Text(most) }, ""},
		{"Stamp", func(r *wire.Reader) any { return r.Stamp() }, api.Stamp{}},
	}
}

const (
	takeNum = iota
	takeInt
	takeFlag
	takeCount
	takeText
	takeStamp
)

// wantBroken holds that a reader has an error which nothing drives out, and
// takes nothing any more.
func wantBroken(t *testing.T, r *wire.Reader, want api.Errno) {
	t.Helper()
	for range 2 {
		if e := r.Err(); e != want {
			t.Errorf("Err: %d, want %d", e, want)
		}
		for _, c := range takes(math.MaxInt) {
			if got := c.call(r); got != c.zero {
				t.Errorf("%s behind error %d: %v", c.name, want, got)
			}
		}
		if e := r.End(); e != want {
			t.Errorf("End: %d, want %d", e, want)
		}
	}
}

func TestP3_2Taken(t *testing.T) {
	for _, c := range []struct {
		in   string
		take int
		most int
		want any
	}{
		{"00", takeNum, 0, uint64(0)},
		{"f7", takeNum, 0, uint64(247)},
		{"f8f8", takeNum, 0, uint64(248)},
		{"f90100", takeNum, 0, uint64(256)},
		{"ff0100000000000000", takeNum, 0, uint64(1 << 56)},
		{"ffffffffffffffffff", takeNum, 0, uint64(math.MaxUint64)},
		{"00", takeInt, 0, int64(0)},
		{"01", takeInt, 0, int64(-1)},
		{"02", takeInt, 0, int64(1)},
		{"f8f8", takeInt, 0, int64(124)},
		{"f8f9", takeInt, 0, int64(-125)},
		{"fffffffffffffffffe", takeInt, 0, int64(math.MaxInt64)},
		{"ffffffffffffffffff", takeInt, 0, int64(math.MinInt64)},
		{"00", takeFlag, 0, false},
		{"01", takeFlag, 0, true},
		{"00", takeCount, 0, 0},
		{"05", takeCount, 5, 5},
		{"f8f8", takeCount, 248, 248},
		{"ff7fffffffffffffff", takeCount, math.MaxInt, math.MaxInt},
		{"00", takeText, 0, ""},
		{"0161", takeText, 1, "a"},
		{"0300ff80", takeText, math.MaxInt, "\x00\xff\x80"},
		{"40000000000000000000000100000002", takeStamp, 0, api.Stamp{Wall: 1 << 62, Tick: 1, Mark: 2}},
	} {
		r := wire.Read(unhex(t, c.in))
		call := takes(c.most)[c.take]
		if got := call.call(r); got != c.want || r.Err() != api.OK || r.End() != api.OK {
			t.Errorf("%s(%d) of %s: %v, %d, want %v", call.name, c.most, c.in, got, r.Err(), c.want)
		}
	}
}

func TestP3_2LongText(t *testing.T) {
	for _, n := range []int{247, 248, 255, 256, 4096, 70000} {
		s := strings.Repeat("ab", n)[:n]
		b := laid(func(w *wire.Writer) { w.Text(s) })
		if r := wire.Read(b); r.Text(n) != s || r.End() != api.OK {
			t.Errorf("a text of %d bytes: %d", n, r.Err())
		}
		r := wire.Read(b)
		if r.Text(n-1) != "" {
			t.Errorf("a text of %d bytes, at most %d", n, n-1)
		}
		wantBroken(t, r, api.ErrLimit)
		r = wire.Read(b[:len(b)-1])
		if r.Text(n) != "" {
			t.Errorf("a text of %d bytes, without its last one", n)
		}
		wantBroken(t, r, api.ErrShort)
	}
}

// The words behind each row: what else is wrong there, and comes later.
func TestP3_2ErrorsInTheirOrder(t *testing.T) {
	const good = "05"
	for _, c := range []struct {
		in   string
		take int
		most int
		want api.Errno
	}{
		{"", takeNum, 0, api.ErrShort},
		{"f8", takeNum, 0, api.ErrShort},
		{"f901", takeNum, 0, api.ErrShort},
		{"f900", takeNum, 0, api.ErrShort}, // it could have been shorter
		{"ff01020304050607", takeNum, 0, api.ErrShort},
		{"ff00000000000000", takeNum, 0, api.ErrShort},
		{"f800" + good, takeNum, 0, api.ErrForm},
		{"f801" + good, takeNum, 0, api.ErrForm},
		{"f8f7" + good, takeNum, 0, api.ErrForm},
		{"f90000" + good, takeNum, 0, api.ErrForm},
		{"f900ff" + good, takeNum, 0, api.ErrForm},
		{"fa00ffff" + good, takeNum, 0, api.ErrForm},
		{"fb00ffffff" + good, takeNum, 0, api.ErrForm},
		{"fc00ffffffff" + good, takeNum, 0, api.ErrForm},
		{"fd00ffffffffff" + good, takeNum, 0, api.ErrForm},
		{"fe00ffffffffffff" + good, takeNum, 0, api.ErrForm},
		{"ff00ffffffffffffff" + good, takeNum, 0, api.ErrForm},
		{"ff0000000000000000" + good, takeNum, 0, api.ErrForm},

		{"", takeInt, 0, api.ErrShort},
		{"f900", takeInt, 0, api.ErrShort},
		{"f8f7" + good, takeInt, 0, api.ErrForm},

		{"", takeFlag, 0, api.ErrShort},
		{"f9ff", takeFlag, 0, api.ErrShort}, // above 1
		{"f801" + good, takeFlag, 0, api.ErrForm},
		{"02" + good, takeFlag, 0, api.ErrForm},
		{"f7" + good, takeFlag, 0, api.ErrForm},
		{"f8f8" + good, takeFlag, 0, api.ErrForm},
		{"ff8000000000000001" + good, takeFlag, 0, api.ErrForm},
		{"ff0000000000000001" + good, takeFlag, 0, api.ErrForm},

		{"", takeCount, -1, api.ErrShort},     // no number is at most so many
		{"f900", takeCount, -1, api.ErrShort}, // it could have been shorter
		{"f8f7" + good, takeCount, 246, api.ErrForm},
		{"f900ff" + good, takeCount, -1, api.ErrForm},
		{"01" + good, takeCount, 0, api.ErrLimit},
		{"f8f8" + good, takeCount, 247, api.ErrLimit},
		{"00" + good, takeCount, -1, api.ErrLimit},
		{"00" + good, takeCount, math.MinInt, api.ErrLimit},
		{"ff8000000000000000" + good, takeCount, math.MaxInt, api.ErrLimit},
		{"ffffffffffffffffff" + good, takeCount, math.MaxInt, api.ErrLimit},
		{"ffffffffffffffffff" + good, takeCount, -1, api.ErrLimit},

		{"", takeText, -1, api.ErrShort},
		{"f9", takeText, 4, api.ErrShort},
		{"f900", takeText, -1, api.ErrShort},
		{"f801", takeText, 0, api.ErrForm},     // above 0, and no byte is there
		{"f900ff", takeText, 254, api.ErrForm}, // above 254, and no byte is there
		{"0161", takeText, 0, api.ErrLimit},
		{"00" + good, takeText, -1, api.ErrLimit},
		{"0561", takeText, 4, api.ErrLimit}, // its own bytes aren't there
		{"ffffffffffffffffff", takeText, math.MaxInt, api.ErrLimit},
		{"01", takeText, 1, api.ErrShort},
		{"0261", takeText, 2, api.ErrShort},
		{"ff7fffffffffffffff61", takeText, math.MaxInt, api.ErrShort},

		{"", takeStamp, 0, api.ErrShort},
		{strings.Repeat("00", 15), takeStamp, 0, api.ErrShort},
		{strings.Repeat("ff", 15), takeStamp, 0, api.ErrShort}, // nor would it be right
		{"40000000000000010000000000000000" + good, takeStamp, 0, api.ErrForm},
		{"80000000000000000000000000000000" + good, takeStamp, 0, api.ErrForm},
		{strings.Repeat("ff", 16) + good, takeStamp, 0, api.ErrForm},
	} {
		// Behind a thing that is taken well the same holds as at the first
		// byte.
		for _, ahead := range []string{"", "07"} {
			r := wire.Read(unhex(t, ahead+c.in))
			if ahead != "" && r.Num() != 7 {
				t.Fatalf("Num ahead of %s: %d", c.in, r.Err())
			}
			call := takes(c.most)[c.take]
			if got := call.call(r); got != call.zero {
				t.Errorf("%s(%d) of %s: %v", call.name, c.most, c.in, got)
			}
			if r.Err() != c.want {
				t.Errorf("%s(%d) of %s: error %d, want %d", call.name, c.most, c.in, r.Err(), c.want)
			}
			wantBroken(t, r, c.want)
		}
	}
}

func TestP3_2End(t *testing.T) {
	r := wire.Read([]byte{1, 2})
	if r.Err() != api.OK || r.Num() != 1 || r.Err() != api.OK {
		t.Errorf("ahead of End: %d", r.Err())
	}
	if e := r.End(); e != api.ErrForm {
		t.Errorf("End with a byte left: %d", e)
	}
	wantBroken(t, r, api.ErrForm)

	r = wire.Read([]byte{1})
	wantOK := func(e api.Errno) {
		t.Helper()
		if e != api.OK {
			t.Errorf("with nothing left: %d", e)
		}
	}
	r.Num()
	wantOK(r.End())
	wantOK(r.End())
	wantOK(r.Err())
	if r.Num() != 0 {
		t.Error("Num with nothing left")
	}
	wantBroken(t, r, api.ErrShort)
}

func TestP3_2NilAndEmptyBytes(t *testing.T) {
	for _, b := range [][]byte{nil, {}} {
		if r := wire.Read(b); r == nil || r.Err() != api.OK || r.End() != api.OK {
			t.Errorf("Read of nothing: %d", r.Err())
		}
		for _, c := range takes(1) {
			r := wire.Read(b)
			if got := c.call(r); got != c.zero || r.Err() != api.ErrShort {
				t.Errorf("%s of nothing: %v, %d", c.name, got, r.Err())
			}
		}
	}
}

func TestP3_2NilReader(t *testing.T) {
	wantBroken(t, nil, api.ErrNil)
	var r *wire.Reader
	if r.Count(-1) != 0 || r.Text(-1) != "" || r.Err() != api.ErrNil {
		t.Error("a nil reader takes something")
	}
}

func TestP3_2BytesAreTheCallers(t *testing.T) {
	b := laid(func(w *wire.Writer) {
		w.Num(300)
		w.Text("abc")
		w.Stamp(api.Stamp{Wall: 5})
	})
	room := append(bytes.Clone(b), 1, 2, 3, 4)
	before := bytes.Clone(room)
	r := wire.Read(room[:len(b)])
	if r.Num() != 300 || !bytes.Equal(room, before) {
		t.Errorf("%x, was %x", room, before)
	}
	for i := range room {
		room[i] = 0xff
	}
	if r.Text(3) != "abc" || r.Stamp() != (api.Stamp{Wall: 5}) || r.End() != api.OK {
		t.Errorf("after its bytes were written over: %d", r.Err())
	}
}

func TestP3_2RoomBehindIsNotRead(t *testing.T) {
	text := laid(func(w *wire.Writer) { w.Text("abc") })
	at := laid(func(w *wire.Writer) { w.Stamp(api.Stamp{Wall: 5}) })
	for _, c := range []struct {
		b    []byte
		take int
	}{{num(300), takeNum}, {text, takeText}, {at, takeStamp}} {
		r := wire.Read(c.b[:len(c.b)-1])
		if got := takes(9)[c.take].call(r); got != takes(9)[c.take].zero {
			t.Errorf("from the room behind: %v", got)
		}
		wantBroken(t, r, api.ErrShort)
	}
}

// modelNum says it by encoding/binary: the number with which b begins, and
// how many bytes it has.
func modelNum(b []byte) (uint64, int, api.Errno) {
	if len(b) == 0 {
		return 0, 0, api.ErrShort
	}
	if b[0] < 248 {
		return uint64(b[0]), 1, api.OK
	}
	size := int(b[0]) - 246
	if len(b) < size {
		return 0, 0, api.ErrShort
	}
	n := binary.BigEndian.Uint64(append(make([]byte, 9-size), b[1:size]...))
	if b[1] == 0 || n < 248 {
		return 0, 0, api.ErrForm
	}
	return n, size, api.OK
}

func TestP3_2NumLikeTheModel(t *testing.T) {
	d := dice(1)
	for range 200000 {
		b := make([]byte, d.below(12))
		for i := range b {
			b[i] = byte(d.next() >> 40)
			if d.below(3) == 0 {
				b[i] = []byte{0, 1, 247, 248, 249, 255}[d.below(6)]
			}
		}
		n, size, e := modelNum(b)
		r := wire.Read(b)
		if got := r.Num(); got != n || r.Err() != e {
			t.Fatalf("Num of %x: %d, %d, want %d, %d", b, got, r.Err(), n, e)
		}
		if e != api.OK {
			continue
		}
		end := api.OK
		if size < len(b) {
			end = api.ErrForm
		}
		if got := r.End(); got != end {
			t.Fatalf("End of %x: %d, want %d", b, got, end)
		}
	}
}

// item is a thing that is laid, and taken again.
type item struct {
	take int
	n    uint64
	s    string
	at   api.Stamp
}

func (d *dice) item() item {
	it := item{take: d.below(6)}
	switch it.take {
	case takeNum, takeInt:
		it.n = d.num()
		if d.below(4) == 0 {
			it.n = edges()[d.below(len(edges()))]
		}
	case takeFlag:
		it.n = d.next() >> 20 & 1
	case takeCount:
		it.n = d.num() >> 1
	case takeText:
		b := make([]byte, d.below(300))
		for i := range b {
			b[i] = byte(d.next() >> 40)
		}
		it.s = string(b)
	case takeStamp:
		it.at = api.Stamp{Wall: int64(d.num() >> 2), Tick: uint32(d.num()), Mark: uint32(d.num())}
	}
	return it
}

func (it item) lay(w *wire.Writer) {
	switch it.take {
	case takeNum, takeCount:
		w.Num(it.n)
	case takeInt:
		w.Int(int64(it.n))
	case takeFlag:
		w.Flag(it.n == 1)
	case takeText:
		w.Text(it.s)
	case takeStamp:
		w.Stamp(it.at)
	}
}

func (it item) value() any {
	return []any{it.n, int64(it.n), it.n == 1, int(it.n), it.s, it.at}[it.take]
}

func TestP3_3TakenOffAgain(t *testing.T) {
	d := dice(2)
	for range 3000 {
		its := make([]item, d.below(8))
		w := wire.New()
		for i := range its {
			its[i] = d.item()
			its[i].lay(w)
		}
		r := wire.Read(w.Bytes())
		for _, it := range its {
			most := max(int(it.n), len(it.s))
			if got := takes(most)[it.take].call(r); got != it.value() || r.Err() != api.OK {
				t.Fatalf("%#v: %#v, %d", it, got, r.Err())
			}
		}
		if e := r.End(); e != api.OK {
			t.Fatalf("End behind %#v: %d", its, e)
		}
	}
}

// Each thing has one form: what is taken off any bytes, laid again, is those
// bytes.
func TestP3_3OneForm(t *testing.T) {
	d := dice(3)
	for range 100000 {
		b := make([]byte, 1+d.below(24))
		for i := range b {
			b[i] = byte(d.next() >> 40)
			if d.below(2) == 0 {
				b[i] = byte(d.below(3))
			}
		}
		r := wire.Read(b)
		w := wire.New()
		for r.Err() == api.OK {
			laid := w.Bytes()
			if !bytes.HasPrefix(b, laid) {
				t.Fatalf("taken off %x, laid again: %x", b, laid)
			}
			switch d.below(6) {
			case takeNum:
				w.Num(r.Num())
			case takeInt:
				w.Int(r.Int())
			case takeFlag:
				w.Flag(r.Flag())
			case takeCount:
				w.Num(uint64(r.Count(200)))
			case takeText:
				w.Text(r.Text(8))
			case takeStamp:
				w.Stamp(r.Stamp())
			}
		}
	}
}

func TestP3_3Edges(t *testing.T) {
	for _, n := range edges() {
		r := wire.Read(num(n))
		if got := r.Num(); got != n || r.End() != api.OK {
			t.Errorf("Num %d: %d, %d", n, got, r.Err())
		}
		for _, m := range []int64{int64(n), -int64(n), int64(n / 2), -int64(n/2) - 1} {
			r := wire.Read(laid(func(w *wire.Writer) { w.Int(m) }))
			if got := r.Int(); got != m || r.End() != api.OK {
				t.Errorf("Int %d: %d, %d", m, got, r.Err())
			}
		}
	}
}

func TestP3_3LowerStandsAhead(t *testing.T) {
	ns := edges()
	d := dice(4)
	for range 2000 {
		ns = append(ns, d.num())
	}
	slices.Sort(ns)
	ns = slices.Compact(ns)
	for i := 1; i < len(ns); i++ {
		if a, b := num(ns[i-1]), num(ns[i]); bytes.Compare(a, b) >= 0 {
			t.Errorf("%d is %x, %d is %x", ns[i-1], a, ns[i], b)
		}
	}
}

func TestP3_3StampIsItsPut(t *testing.T) {
	d := dice(5)
	for range 200 {
		s := api.Stamp{Wall: int64(d.num() >> 2), Tick: uint32(d.num()), Mark: uint32(d.num())}
		b := laid(func(w *wire.Writer) { w.Stamp(s) })
		if !bytes.Equal(b, stamp.Put(s)) {
			t.Errorf("%v: %x", s, b)
		}
	}
}

// Every call ends, and none panics, whatever the bytes, and whatever is asked
// for at most.
func TestR1AnyBytes(t *testing.T) {
	d := dice(6)
	mosts := []int{math.MinInt, -1, 0, 1, 247, 248, 4096, math.MaxInt}
	for range 50000 {
		b := make([]byte, d.below(20))
		for i := range b {
			b[i] = byte(d.next() >> 40)
		}
		r := wire.Read(b)
		met := api.OK
		for range 6 {
			c := takes(mosts[d.below(len(mosts))])[d.below(6)]
			got := c.call(r)
			if r.Err() != api.OK && got != c.zero {
				t.Fatalf("%s of %x: %v beside error %d", c.name, b, got, r.Err())
			}
			if met != api.OK && r.Err() != met {
				t.Fatalf("%s of %x: error %d became %d", c.name, b, met, r.Err())
			}
			met = r.Err()
		}
		if e := r.End(); met != api.OK && e != met {
			t.Fatalf("End of %x: error %d became %d", b, met, e)
		}
	}
	// Objects that didn't come out of New and Read are promised no more than
	// this.
	new(wire.Writer).Text("a")
	for _, c := range takes(1) {
		c.call(new(wire.Reader))
	}
	new(wire.Reader).End()
}
