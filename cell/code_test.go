package cell_test

import (
	"bytes"
	"encoding/hex"
	"math"
	"reflect"
	"slices"
	"strings"
	"testing"

	"slackwater/api"
	"slackwater/cell"
	"slackwater/wire"
)

// Tests of P14.3: commands as bytes.

const (
	maxBody = 1 << 20
	maxText = 4096
)

// sameCmd says whether two commands are one. Nil lists and empty ones are.
func sameCmd(a, b cell.Cmd) bool {
	if !slices.EqualFunc(a.Writes, b.Writes, sameWrite) {
		return false
	}
	a.Writes, b.Writes = nil, nil
	return reflect.DeepEqual(a, b)
}

// sameWrite looks at writes that needn't be right.
func sameWrite(v, w api.Write) bool {
	return slices.Equal(v.Set, w.Set) && v.Time == w.Time && v.Kind == w.Kind && v.Num == w.Num && v.Text == w.Text
}

func wantBytes(t *testing.T, m cell.Cmd, want string) {
	t.Helper()
	if got := hex.EncodeToString(cell.Encode(m)); got != strings.ReplaceAll(want, " ", "") {
		t.Errorf("Encode(%+v): %s, want %s", m, got, want)
	}
}

func wantDecoded(t *testing.T, m cell.Cmd) {
	t.Helper()
	b := cell.Encode(m)
	if got, e := cell.Decode(b); e != api.OK || !sameCmd(got, m) {
		t.Errorf("Decode of the Encode of %+v: %+v, error %d", m, got, e)
	}
}

func wantDecodeError(t *testing.T, what string, b []byte, want api.Errno) {
	t.Helper()
	if m, e := cell.Decode(b); e != want || !reflect.DeepEqual(m, cell.Cmd{}) {
		t.Errorf("Decode of %s (%d bytes): %+v, error %d, want error %d", what, len(b), m, e, want)
	}
}

// full is a command in which no field is zero.
func full() cell.Cmd {
	return cell.Cmd{
		Kind: 3, Deed: 300, At: api.Stamp{Wall: 5, Tick: 6, Mark: 7}, Yes: true, Token: "tok", N: -2, Id: 15,
		Writes: []api.Write{
			{Set: []api.Pair{{Name: "a", Value: "1"}, {Name: "bc", Value: "23"}}, Time: 1, Kind: 1, Num: -1},
			{Time: 4, Kind: 2, Text: "up"},
		},
	}
}

func TestP14_3Bytes(t *testing.T) {
	wantBytes(t, cell.Cmd{}, "00 00 00000000000000000000000000000000 00 00 00 00 00")
	wantBytes(t, full(), "06 f9012c 00000000000000050000000600000007 01 03746f6b 03 1e 02"+
		"02 01 61 01 31 02 6263 02 3233 02 02 01 00"+
		"00 08 04 00 02 7570")
	wantBytes(t, cell.Cmd{Kind: -1, Deed: math.MaxUint32, At: api.Stamp{Wall: -1, Tick: math.MaxUint32}, N: math.MinInt64, Id: math.MinInt},
		"01 fbffffffff ffffffffffffffffffffffff00000000 00 00 ffffffffffffffffff ffffffffffffffffff 00")
	wantBytes(t, cell.Cmd{Kind: 9, Writes: []api.Write{{Time: math.MaxInt64, Kind: -3, Num: 124}}},
		"12 00 00000000000000000000000000000000 00 00 00 00 01 00 fffffffffffffffffe 05 f8f8 00")
}

// odd are commands at the edges of all that may be decoded.
func odd() []cell.Cmd {
	l := []cell.Cmd{
		{}, full(), {Kind: math.MinInt, N: math.MinInt64, Id: math.MinInt}, {Kind: math.MaxInt, N: math.MaxInt64, Id: math.MaxInt},
		{Deed: math.MaxUint32, At: st("4611686018427387904.4294967295.4294967295")},
		{Token: "\x00\xff \n"}, {Token: long(maxText)}, {Writes: []api.Write{}}, {Writes: []api.Write{{}}}, {Writes: make([]api.Write, maxWrites)},
		{Writes: []api.Write{{Set: []api.Pair{}, Time: math.MinInt64, Kind: math.MinInt, Num: math.MinInt64}}},
		{Writes: []api.Write{{Set: make([]api.Pair, maxPairs), Time: math.MaxInt64, Kind: math.MaxInt, Num: math.MaxInt64, Text: long(maxText)}}},
		{Writes: []api.Write{{Set: []api.Pair{{Name: long(maxText), Value: "\xff"}, {Name: "", Value: long(maxText)}}, Text: "\x00"}}},
	}
	for _, batch := range rightBatches() {
		l = append(l, begins("t", batch...), prepares(1, "5.0.0", batch...))
	}
	return l
}

func TestP14_3Decoded(t *testing.T) {
	for _, m := range odd() {
		wantDecoded(t, m)
	}
	for _, m := range []cell.Cmd{decides(1, true, "5.0.1"), resolves(9, false, zero), closesAt("9.0.0"), cutsAt("5.0.0"), retains(maxTime), pinsAt(15, "5.0.0", maxLease), ticks()} {
		wantDecoded(t, m)
	}
}

func TestP14_3Short(t *testing.T) {
	b := cell.Encode(full())
	for n := range b {
		wantDecodeError(t, "a part of a command", b[:n], api.ErrShort)
	}
	wantDecodeError(t, "no bytes", nil, api.ErrShort)
	// A text's end is missing, and more than what may be told.
	wantDecodeError(t, "a text without its bytes", slices.Concat(headOf("00"), unhex("f90fff")), api.ErrShort)
}

func unhex(s string) []byte {
	b, err := hex.DecodeString(strings.ReplaceAll(s, " ", ""))
	if err != nil {
		panic(s)
	}
	return b
}

// headOf is a command with a deed, up to its token.
func headOf(deed string) []byte {
	return unhex("02" + deed + "00000000000000050000000600000007 01")
}

// ended is a command with a deed, without a token and writes.
func ended(deed string) []byte {
	return slices.Concat(headOf(deed), unhex("00 00 00 00"))
}

func TestP14_3Form(t *testing.T) {
	for _, c := range []struct{ what, b string }{
		{"a Kind that could be shorter", "f802 00 00000000000000000000000000000000 00 00 00 00 00"},
		{"a deed that could be shorter", "00 f900ff 00000000000000000000000000000000 00 00 00 00 00"},
		{"a stamp below 0", "00 00 80000000000000000000000000000000 00 00 00 00 00"},
		{"a stamp above MaxWall", "00 00 40000000000000010000000000000000 00 00 00 00 00"},
		{"a truth above 1", "00 00 00000000000000000000000000000000 02 00 00 00 00"},
		{"a token whose number could be shorter", "00 00 00000000000000000000000000000000 00 f800 00 00 00"},
		{"an N that could be shorter", "00 00 00000000000000000000000000000000 00 00 f801 00 00"},
		{"an Id that could be shorter", "00 00 00000000000000000000000000000000 00 00 00 f80a 00"},
		{"a number of writes that could be shorter", "00 00 00000000000000000000000000000000 00 00 00 00 f801 00 00 00 00 00"},
		{"a byte behind the end", "00 00 00000000000000000000000000000000 00 00 00 00 00 00"},
	} {
		wantDecodeError(t, c.what, unhex(c.b), api.ErrForm)
	}
	for _, m := range odd() {
		wantDecodeError(t, "a command and a byte more", append(cell.Encode(m), 0), api.ErrForm)
	}
	for _, at := range wrongStamps() {
		wantDecodeError(t, "a stamp that isn't right", cell.Encode(cell.Cmd{At: at}), api.ErrForm)
	}
}

// tooMuch are commands with one thing above its limit.
func tooMuch() []cell.Cmd {
	long := long(maxText + 1)
	return []cell.Cmd{
		{Token: long}, {Writes: make([]api.Write, maxWrites+1)}, {Writes: []api.Write{{Set: make([]api.Pair, maxPairs+1)}}},
		{Writes: []api.Write{{Text: long}}}, {Writes: []api.Write{{}, {Set: []api.Pair{{}, {Name: long}}}}}, {Writes: []api.Write{{Set: []api.Pair{{Value: long}}}}},
	}
}

func TestP14_3Limits(t *testing.T) {
	for _, m := range tooMuch() {
		b := cell.Encode(m)
		wantDecodeError(t, "too much", b, api.ErrLimit)
		wantDecodeError(t, "too much, and a byte more", append(b, 0), api.ErrLimit)
	}
	for _, most := range []string{"ffffffffffffffffff", "ff8000000000000000", "fbffffffff", "fc0100000000"} {
		wantDecodeError(t, "a great token", slices.Concat(headOf("00"), unhex(most)), api.ErrLimit)
		wantDecodeError(t, "many writes", slices.Concat(headOf("00"), unhex("00 00 00"), unhex(most)), api.ErrLimit)
		wantDecodeError(t, "many labels", slices.Concat(headOf("00"), unhex("00 00 00 01"), unhex(most)), api.ErrLimit)
	}
}

// That a deed is too great is said of bytes that are else a command's.
func TestP14_3Deed(t *testing.T) {
	if m, e := cell.Decode(ended("fbffffffff")); e != api.OK || m.Deed != math.MaxUint32 {
		t.Errorf("Decode of the greatest deed: %+v, error %d", m, e)
	}
	for _, deed := range []string{"fc0100000000", "fc0100000001", "ffffffffffffffffff", "ff8000000000000000"} {
		wantDecodeError(t, "a deed that is too great", ended(deed), api.ErrLimit)
		wantDecodeError(t, "a great deed, and a byte more", append(ended(deed), 0), api.ErrForm)
		wantDecodeError(t, "a great deed, and a byte less", ended(deed)[:len(ended(deed))-1], api.ErrShort)
		wantDecodeError(t, "a great deed alone", unhex("00"+deed), api.ErrShort)
		wantDecodeError(t, "a great deed, and a wrong stamp", slices.Concat(unhex("00"+deed), bytes.Repeat([]byte{0xff}, 16)), api.ErrForm)
	}
}

// ofSize is a command with so many bytes, some 2^20.
func ofSize(t *testing.T, size int) []byte {
	t.Helper()
	var m cell.Cmd
	for range 8 {
		var w api.Write
		for range maxPairs {
			w.Set = append(w.Set, api.Pair{Name: long(maxText), Value: long(maxText)})
		}
		m.Writes = append(m.Writes, w)
	}
	over := len(cell.Encode(m)) - size
	m.Writes[0].Set[0].Name = long(maxText - over)
	b := cell.Encode(m)
	if len(b) != size {
		t.Fatalf("a command has %d bytes, want %d", len(b), size)
	}
	return b
}

func TestP14_3Size(t *testing.T) {
	b := ofSize(t, maxBody)
	if m, e := cell.Decode(b); e != api.OK || !bytes.Equal(cell.Encode(m), b) {
		t.Errorf("Decode of %d bytes: error %d", len(b), e)
	}
	wantDecodeError(t, "a command", ofSize(t, maxBody+1), api.ErrLimit)
	wantDecodeError(t, "a command, and more", append(b, 0), api.ErrLimit)
	for _, fill := range []byte{0, 1, 0x80, 0xff} {
		wantDecodeError(t, "bytes of one kind", bytes.Repeat([]byte{fill}, maxBody+1), api.ErrLimit)
		wantDecodeError(t, "bytes of one kind", bytes.Repeat([]byte{fill}, 1<<22), api.ErrLimit)
	}
	wantDecodeError(t, "zeros", make([]byte, maxBody), api.ErrForm)
}

// cmd is a command whose fields needn't fit together, of what may be decoded.
func (d *dice) cmd() cell.Cmd {
	m := cell.Cmd{Kind: int(d.wide()), Deed: uint32(d.next() >> d.below(64)), Yes: d.below(2) == 0, Token: d.bytes(40), N: d.wide(), Id: int(d.wide())}
	m.At = api.Stamp{Wall: max(0, d.wide()>>2), Tick: uint32(d.next()), Mark: uint32(d.next())}
	for range d.below(5) {
		w := api.Write{Time: d.wide(), Kind: int(d.wide()), Num: d.wide(), Text: d.bytes(300)}
		for range d.below(4) {
			w.Set = append(w.Set, api.Pair{Name: d.bytes(4), Value: d.bytes(4)})
		}
		m.Writes = append(m.Writes, w)
	}
	return m
}

// wide is a number of any size.
func (d *dice) wide() int64 { return int64(d.next()) >> d.below(64) }

func (d *dice) bytes(most int) string {
	b := make([]byte, d.below(most+1))
	for i := range b {
		b[i] = byte(d.next() >> 20)
	}
	return string(b)
}

func TestP14_3RoundTrip(t *testing.T) {
	d := dice(31)
	for range 5000 {
		wantDecoded(t, d.cmd())
	}
}

// Bytes are one command's at most: what is decoded is encoded to just them.
func TestP14_3OneForm(t *testing.T) {
	d := dice(32)
	decoded := 0
	for range 20000 {
		b := cell.Encode(d.cmd())
		for range 1 + d.below(2) {
			at := d.below(len(b))
			switch d.below(3) {
			case 0:
				b[at] = byte(d.next() >> 20)
			case 1:
				b = slices.Delete(b, at, min(at+1+d.below(3), len(b)))
			case 2:
				b = slices.Insert(b, at, byte(d.next()>>20))
			}
			if len(b) == 0 {
				break
			}
		}
		m, e := cell.Decode(b)
		if e == api.OK {
			decoded++
		}
		if want := modelDecode(b); e != want {
			t.Errorf("Decode(%x): error %d, want %d", b, e, want)
		}
		if e == api.OK && !bytes.Equal(cell.Encode(m), b) || e != api.OK && !reflect.DeepEqual(m, cell.Cmd{}) {
			t.Errorf("Decode(%x): %+v, error %d", b, m, e)
		}
	}
	if decoded < 1000 {
		t.Errorf("of the bytes %d were decoded", decoded)
	}
}

// modelDecode is the error of bytes, one thing behind the other by a list of
// what is to be taken.
func modelDecode(b []byte) api.Errno {
	r := wire.Read(b)
	var deed uint64
	var last int
	take := map[byte]func(){
		'i': func() { r.Int() }, 'd': func() { deed = r.Num() }, 's': func() { r.Stamp() }, 'f': func() { r.Flag() }, 't': func() { r.Text(maxText) },
		'w': func() { last = r.Count(maxWrites) }, 'p': func() { last = r.Count(maxPairs) },
	}
	all := func(things string) {
		for i := range things {
			take[things[i]]()
		}
	}
	all("idsftiiw")
	for range last {
		all("p")
		all(strings.Repeat("tt", last))
		all("iiit")
	}
	if e := r.End(); e != api.OK || deed <= math.MaxUint32 {
		return e
	}
	return api.ErrLimit
}
