package relay_test

import (
	"bytes"
	"encoding/binary"
	"encoding/hex"
	"fmt"
	"math"
	"math/bits"
	"reflect"
	"strings"
	"testing"

	"slackwater/api"
	"slackwater/relay"
	"slackwater/view"
)

// The forms of layer 3, built here once more, so that the bytes are held by
// something else than the program's own writer.

func num(n uint64) []byte {
	if n < 248 {
		return []byte{byte(n)}
	}
	k := (bits.Len64(n) + 7) / 8
	return append([]byte{byte(247 + k)}, binary.BigEndian.AppendUint64(nil, n)[8-k:]...)
}

func signed(n int) []byte {
	if n < 0 {
		return num(uint64(-(n+1))*2 + 1)
	}
	return num(uint64(n) * 2)
}

func text(s string) []byte { return append(num(uint64(len(s))), s...) }

func join(parts ...[]byte) []byte { return bytes.Join(parts, nil) }

func viewBytes(v view.View) []byte {
	b := join(signed(v.Epoch), signed(v.Primary), num(uint64(len(v.Members))))
	for _, n := range v.Members {
		b = append(b, signed(n)...)
	}
	return b
}

func listBytes(l []relay.Entry) []byte {
	b := num(uint64(len(l)))
	for _, x := range l {
		b = join(b, signed(x.Epoch), text(string(x.Cmd)))
	}
	return b
}

func msgBytes(m relay.Msg) []byte {
	return join(signed(m.Kind), signed(m.Epoch), viewBytes(m.View), signed(m.Index), signed(m.Sure), listBytes(m.Log))
}

func recPromise(v view.View) []byte { return join(num(1), viewBytes(v)) }

func recEntry(at, epoch int, cmd string) []byte {
	return join(num(2), signed(at), listBytes(of(epoch, cmd)))
}

func recList(joined int, l ...relay.Entry) []byte {
	return join(num(3), signed(joined), listBytes(l))
}

func unhex(t *testing.T, s string) []byte {
	t.Helper()
	b, err := hex.DecodeString(strings.ReplaceAll(s, " ", ""))
	if err != nil {
		t.Fatal(err)
	}
	return b
}

func TestP16_1RecordBytes(t *testing.T) {
	r := make1(t, 1)
	recs, _ := r.Lead(viewOf(200, 1, 1))
	if want := unhex(t, "01 f90190 02 01 02"); !sameRecs(recs, want) {
		t.Errorf("Lead: %x, want %x", recs, want)
	}
	_, recs, _, _ = r.Propose([]byte("ab"))
	if want := unhex(t, "02 02 01 f90190 026162"); !sameRecs(recs, want) {
		t.Errorf("Propose: %x, want %x", recs, want)
	}
	recs, _ = r.Take(0, offer(viewOf(201, 0, 0, 1), 0, append(of(-1, "c"), of(200, "")...)))
	if want := [][]byte{unhex(t, "01 f90192 00 02 00 02"), unhex(t, "03 f90192 02 01 0163 f90190 00")}; !sameRecs(recs, want...) {
		t.Errorf("Take: %x, want %x", recs, want)
	}
}

func TestP16_3LoadErrors(t *testing.T) {
	v := viewOf(5, 0, 0, 1)
	a := recEntry(1, 1, "a")
	for _, c := range []struct {
		what string
		recs [][]byte
	}{
		{"of nothing", [][]byte{{}}},
		{"of nothing, behind others", [][]byte{recPromise(v), a, nil}},
		{"of the number 0", [][]byte{join(num(0), viewBytes(v))}},
		{"of the number 4", [][]byte{recPromise(v), join(num(4), signed(1), listBytes(of(1, "a")))}},
		{"of a great number", [][]byte{join(num(257), viewBytes(v))}},
		{"of the number 1, not in its shortest form", [][]byte{join([]byte{0xf8, 1}, viewBytes(v))}},
		{"of the number 1 alone", [][]byte{{1}}},
		{"of the number 2 alone", [][]byte{{2}}},
		{"of the number 3 alone", [][]byte{{3}}},
		{"a promise with a byte behind it", [][]byte{append(recPromise(v), 0)}},
		{"a promise without its last byte", [][]byte{recPromise(v)[:len(recPromise(v))-1]}},
		{"an entry with a byte behind it", [][]byte{append(recEntry(1, 1, "a"), 0)}},
		{"an entry without its last byte", [][]byte{a[:len(a)-1]}},
		{"a list with a byte behind it", [][]byte{append(recList(0), 0)}},
		{"a list without its last byte", [][]byte{recList(0, of(1, "a")...)[:4]}},
		{"a view of the epoch 0", [][]byte{recPromise(viewOf(0, 0, 0))}},
		{"a view of an epoch below 0", [][]byte{recPromise(viewOf(-1, 0, 0))}},
		{"a view of too great an epoch", [][]byte{recPromise(viewOf(maxWall+1, 0, 0))}},
		{"a view without members", [][]byte{recPromise(viewOf(1, 0))}},
		{"a view whose members don't rise", [][]byte{recPromise(viewOf(1, 0, 1, 0))}},
		{"a view without its primary", [][]byte{recPromise(viewOf(1, 2, 0, 1))}},
		{"a view of a node that there isn't", [][]byte{recPromise(viewOf(1, 0, 0, 8))}},
		{"a view of too many members", [][]byte{recPromise(viewOf(1, 0, 0, 1, 2, 3, 4, 5, 6, 7, 8))}},
		{"a view that was promised", [][]byte{recPromise(v), recPromise(v)}},
		{"another view of the epoch", [][]byte{recPromise(v), a, recPromise(viewOf(5, 1, 0, 1))}},
		{"an earlier view", [][]byte{recPromise(v), recPromise(viewOf(4, 0, 0, 1))}},
		{"the place 0", [][]byte{recEntry(0, 1, "a")}},
		{"a place below 0", [][]byte{recEntry(-1, 1, "a")}},
		{"a place behind the next one", [][]byte{recEntry(2, 1, "a")}},
		{"a place that is taken", [][]byte{a, a}},
		{"a place behind the next one of some", [][]byte{a, recEntry(3, 1, "a")}},
		{"a place behind a shorter list", [][]byte{a, recList(0), recEntry(2, 1, "a")}},
		{"an entry of none", [][]byte{join(num(2), signed(1), listBytes(nil))}},
		{"an entry of two", [][]byte{join(num(2), signed(1), listBytes(of(1, "a", "b")))}},
		{"an epoch below 0", [][]byte{recPromise(v), recList(-1)}},
		{"the least epoch", [][]byte{recList(math.MinInt)}},
		{"an epoch above none", [][]byte{recList(1)}},
		{"an epoch above the view's", [][]byte{recPromise(v), recList(6, of(1, "a")...)}},
		{"the greatest epoch", [][]byte{recPromise(v), recList(math.MaxInt)}},
		{"a list of more than it has", [][]byte{join(num(3), signed(0), num(2), signed(1), text("a"))}},
		{"a place above the greatest log", [][]byte{recList(0, full(1)...), recEntry(maxLog+1, 1, "a")}},
		{"too long a list", [][]byte{recList(0, append(full(1), full(1)[0])...)}},
		{"too long a command", [][]byte{recEntry(1, 1, strings.Repeat("a", maxCmd+1))}},
		{"too long a command of a list", [][]byte{recList(0, of(1, strings.Repeat("a", maxCmd+1))...)}},
	} {
		if r, e := relay.Load(0, c.recs); r != nil || e != api.ErrBroken {
			t.Errorf("%s: error %d, want %d", c.what, e, api.ErrBroken)
		}
		if r, e := relay.Load(8, c.recs); r != nil || e != api.ErrArg {
			t.Errorf("%s, of the node 8: error %d, want %d", c.what, e, api.ErrArg)
		}
	}
	for _, id := range []int{-1, 8, math.MinInt, math.MaxInt} {
		if r, e := relay.Load(id, nil); r != nil || e != api.ErrArg {
			t.Errorf("Load(%d): error %d", id, e)
		}
	}
}

// What may just be.
func TestP16_3LoadEdges(t *testing.T) {
	top := viewOf(maxWall, 7, 0, 1, 2, 3, 4, 5, 6, 7)
	long := strings.Repeat("a", maxCmd)
	for _, recs := range [][][]byte{
		nil,
		{recPromise(viewOf(1, 0, 0)), recPromise(top)},
		{recPromise(top), recList(maxWall)},
		{recPromise(top), recList(0)},
		{recList(0)},
		{recList(0, full(1)...)},
		{recList(0, full(1)[1:]...), recEntry(maxLog, math.MinInt, "")},
		{recEntry(1, math.MaxInt, long)},
		{recList(0, of(1, long, long)...)},
	} {
		for _, id := range []int{0, 7} {
			if r, e := relay.Load(id, recs); r == nil || e != api.OK {
				t.Errorf("Load of %d records, the first %.20x: error %d", len(recs), append(recs, nil)[0], e)
			}
		}
	}
	// A log may be so long, entry by entry.
	var recs [][]byte
	for i, x := range full(3) {
		recs = append(recs, recEntry(i+1, 3, string(x.Cmd)))
	}
	r, e := relay.Load(1, recs)
	if e != api.OK || !reflect.DeepEqual(r.Log(), full(3)) {
		t.Errorf("Load of a full log: error %d", e)
	}
	if _, e := relay.Load(1, append(recs, recEntry(maxLog+1, 3, "a"))); e != api.ErrBroken {
		t.Errorf("Load of more than a full log: error %d", e)
	}
}

// msgs are messages of any numbers.
func msgs() []relay.Msg {
	return []relay.Msg{
		{},
		ack(1, 3),
		offer(viewOf(5, 0, 0, 1, 3), 1, of(4, "a", "")),
		ship(1, 1, 0, of(1, "\x00\xff")),
		{Kind: -1, Epoch: -2, View: view.View{Epoch: -3, Primary: -4, Members: []int{9, 9, -5}}, Index: -6, Sure: -7, Log: of(-8, "b")},
		{Kind: math.MaxInt, Epoch: math.MaxInt, View: viewOf(math.MaxInt, math.MaxInt, math.MaxInt), Index: math.MaxInt, Sure: math.MaxInt, Log: of(math.MaxInt, "")},
		{Kind: math.MinInt, Epoch: math.MinInt, View: viewOf(math.MinInt, math.MinInt, math.MinInt), Index: math.MinInt, Sure: math.MinInt, Log: of(math.MinInt, "")},
		{Kind: 124, Epoch: -125, View: viewOf(1<<20, 123, 0, 1, 2, 3, 4, 5, 6, 7), Index: 1 << 31, Sure: -(1 << 40), Log: of(300, strings.Repeat("x", 300))},
		{Log: full(7)},
		{Log: of(1, strings.Repeat("y", maxCmd))},
	}
}

func sameMsg(a, b relay.Msg) bool { return fmt.Sprintf("%+v", a) == fmt.Sprintf("%+v", b) }

func TestP16_4EncodeBytes(t *testing.T) {
	m := relay.Msg{Kind: 1, Epoch: 2, View: viewOf(3, 4, 5, 6), Index: 7, Sure: -8, Log: append(of(9, "ab"), of(-10, "")...)}
	if got, want := relay.Encode(m), unhex(t, "02 04 06 08 02 0a 0c 0e 0f 02 12 026162 13 00"); !bytes.Equal(got, want) {
		t.Errorf("Encode: %x, want %x", got, want)
	}
	if got, want := relay.Encode(relay.Msg{}), unhex(t, "00 00 00 00 00 00 00 00"); !bytes.Equal(got, want) {
		t.Errorf("Encode of nothing: %x, want %x", got, want)
	}
	for _, m := range msgs() {
		if got := relay.Encode(m); !bytes.Equal(got, msgBytes(m)) {
			t.Errorf("Encode(%.100v): %.100x", m, got)
		}
	}
}

func TestP16_4Decode(t *testing.T) {
	for _, m := range msgs() {
		if got, e := relay.Decode(msgBytes(m)); e != api.OK || !sameMsg(got, m) {
			t.Errorf("Decode: %.100v, error %d, want %.100v", got, e, m)
		}
	}
}

func TestP16_4DecodeErrors(t *testing.T) {
	long := strings.Repeat("a", maxCmd+1)
	m := offer(viewOf(5, 0, 0, 1, 3), 1, of(4, "abc", "d"))
	b := msgBytes(m)
	for _, c := range []struct {
		what string
		b    []byte
		want api.Errno
	}{
		{"no bytes", nil, api.ErrShort},
		{"a byte behind it", append(bytes.Clone(b), 0), api.ErrForm},
		{"another message behind it", append(bytes.Clone(b), b...), api.ErrForm},
		{"a kind not in its shortest form", join([]byte{0xf8, 2}, b[1:]), api.ErrForm},
		{"too many members", msgBytes(relay.Msg{View: viewOf(1, 0, 0, 1, 2, 3, 4, 5, 6, 7, 8)}), api.ErrLimit},
		{"too long a log", msgBytes(relay.Msg{Log: append(full(1), full(1)[0])}), api.ErrLimit},
		{"too long a log, that isn't there", join(msgBytes(relay.Msg{})[:7], num(maxLog+1)), api.ErrLimit},
		{"a full log, that isn't there", join(msgBytes(relay.Msg{})[:7], num(maxLog)), api.ErrShort},
		{"the longest log", join(msgBytes(relay.Msg{})[:7], num(math.MaxUint64)), api.ErrLimit},
		{"too long a command", msgBytes(relay.Msg{Log: of(1, long)}), api.ErrLimit},
		{"too long a command behind others", msgBytes(relay.Msg{Log: of(1, "a", long, "b")}), api.ErrLimit},
		{"too long a command, that isn't there", join(msgBytes(relay.Msg{})[:7], num(1), signed(1), num(maxCmd+1)), api.ErrLimit},
		{"a long command, that isn't there", join(msgBytes(relay.Msg{})[:7], num(1), signed(1), num(maxCmd)), api.ErrShort},
		{"too long a log, and a byte behind it", append(msgBytes(relay.Msg{Log: append(full(1), full(1)[0])}), 0), api.ErrLimit},
	} {
		if got, e := relay.Decode(c.b); e != c.want || !reflect.DeepEqual(got, relay.Msg{}) {
			t.Errorf("%s: %.100v, error %d, want %d", c.what, got, e, c.want)
		}
	}
	for n := range b {
		if got, e := relay.Decode(b[:n]); e != api.ErrShort || !reflect.DeepEqual(got, relay.Msg{}) {
			t.Errorf("the first %d bytes: %v, error %d", n, got, e)
		}
	}
}

// Of each message there is one form: what is taken off any bytes, encoded
// again, is those bytes.
func TestP16_4OneForm(t *testing.T) {
	d := dice(1)
	taken := 0
	for range 200000 {
		b := make([]byte, d.below(16))
		for i := range b {
			b[i] = byte(d.next() >> 40)
			if d.below(4) != 0 {
				b[i] = byte(d.below(4))
			}
		}
		m, e := relay.Decode(b)
		if e != api.OK {
			if !reflect.DeepEqual(m, relay.Msg{}) {
				t.Fatalf("%x: %v beside error %d", b, m, e)
			}
			continue
		}
		taken++
		if again := relay.Encode(m); !bytes.Equal(again, b) {
			t.Fatalf("%x, taken and encoded again: %x", b, again)
		}
	}
	if taken < 1000 {
		t.Errorf("%d of the bytes were messages", taken)
	}
}

// What is handed in isn't kept, and what is handed out is new memory.
func TestR3MessagesShareNothing(t *testing.T) {
	b := roomy(msgBytes(offer(viewOf(5, 0, 0, 1, 3), 1, of(4, "abc", "de"))))
	m, e := relay.Decode(b)
	if e != api.OK {
		t.Fatalf("error %d", e)
	}
	was := fmt.Sprintf("%+v", m)
	spoil(b)
	if is := fmt.Sprintf("%+v", m); is != was {
		t.Errorf("is %s, was %s", is, was)
	}
	b = relay.Encode(m)
	if is := fmt.Sprintf("%+v", m); is != was {
		t.Errorf("is %s, was %s", is, was)
	}
	again := bytes.Clone(b)
	spoilMsg(m)
	if !bytes.Equal(b, again) {
		t.Errorf("is %x, was %x", b, again)
	}
}
