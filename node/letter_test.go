package node_test

import (
	"bytes"
	"fmt"
	"math"
	"reflect"
	"slices"
	"testing"

	"slackwater/api"
	"slackwater/cell"
	"slackwater/node"
	"slackwater/relay"
	"slackwater/stamp"
	"slackwater/wire"
)

// Tests of P17.1: letters as bytes.

// laid is what a writer laid.
func laid(f func(w *wire.Writer)) []byte {
	w := wire.New()
	f(w)
	return w.Bytes()
}

// letters are some of each kind, with nothing but what the kind has.
func letters() []node.Letter {
	batch := []api.Write{{Set: []api.Pair{{Name: "a", Value: "1"}}, Time: 5, Kind: api.Sample, Num: -7}, {Time: -1, Kind: 9, Text: "x"}}
	full := cell.Cmd{Kind: begin, Deed: maxTick, At: at(maxWall, maxTick, maxTick), Yes: true, Token: "t", N: -5, Id: -1, Writes: batch}
	msg := relay.Msg{Kind: relay.Offer, Epoch: 3, View: viewOf(3, 1, 1, 2), Index: 4, Sure: 2, Log: []relay.Entry{{Epoch: 1, Cmd: []byte("x")}, {Epoch: 3}}}
	return []node.Letter{
		{Kind: chat}, {Kind: chat, Shard: 3, Chat: msg}, {Kind: chat, Shard: -1, Chat: relay.Msg{Kind: -9, Index: math.MinInt}},
		{Kind: leads}, {Kind: leads, Shard: 1, View: viewOf(maxWall, 7, 0, 1, 2, 3, 4, 5, 6, 7)}, {Kind: leads, Shard: math.MaxInt, View: viewOf(-1, -2, 9, 8)},
		{Kind: active}, {Kind: active, Shard: math.MinInt, Epoch: math.MaxInt}, {Kind: active, Epoch: -1},
		{Kind: call}, {Kind: call, Shard: 2, Cmd: full}, {Kind: call, Cmd: cell.Cmd{Kind: 99}},
		{Kind: answer}, {Kind: answer, Shard: 2, Cmd: full, Reply: cell.Reply{Err: -3, Deed: maxTick, State: -1, At: at(maxWall, maxTick, maxTick)}},
		{Kind: answer, Reply: cell.Reply{Err: math.MaxInt, State: math.MinInt, At: at(5, 0, 7)}},
	}
}

func TestP17_1Seal(t *testing.T) {
	for _, l := range letters() {
		want := laid(func(w *wire.Writer) {
			w.Int(int64(l.Kind))
			w.Int(int64(l.Shard))
			switch l.Kind {
			case chat:
				w.Text(string(relay.Encode(l.Chat)))
			case leads:
				w.Int(int64(l.View.Epoch))
				w.Int(int64(l.View.Primary))
				w.Num(uint64(len(l.View.Members)))
				for _, n := range l.View.Members {
					w.Int(int64(n))
				}
			case active:
				w.Int(int64(l.Epoch))
			case call, answer:
				w.Text(string(cell.Encode(l.Cmd)))
			}
			if l.Kind == answer {
				w.Int(int64(l.Reply.Err))
				w.Num(uint64(l.Reply.Deed))
				w.Int(int64(l.Reply.State))
				w.Stamp(l.Reply.At)
			}
		})
		if got := node.Seal(l); !bytes.Equal(got, want) {
			t.Errorf("%+v: %x, want %x", l, got, want)
		}
	}
	// Written out by hand, as the document says it.
	if got, want := node.Seal(node.Letter{Kind: active, Shard: -1, Epoch: 300}), []byte{6, 1, 249, 2, 88}; !bytes.Equal(got, want) {
		t.Errorf("%x, want %x", got, want)
	}
	if got, want := node.Seal(node.Letter{Kind: leads, Shard: 1, View: viewOf(1, 0, 0, 2)}), []byte{4, 2, 2, 0, 2, 0, 4}; !bytes.Equal(got, want) {
		t.Errorf("%x, want %x", got, want)
	}
	reply := node.Seal(node.Letter{Kind: answer, Reply: cell.Reply{Err: 4, Deed: 9, State: 2, At: at(5, 1, 9)}})
	if want := append([]byte{8, 9, 4}, stamp.Put(at(5, 1, 9))...); !bytes.HasSuffix(reply, want) {
		t.Errorf("%x, want %x at the end", reply, want)
	}
}

// Of another Kind there are the Kind and the Shard alone.
func TestP17_1SealOther(t *testing.T) {
	for _, kind := range []int{0, 6, -1, math.MaxInt, math.MinInt} {
		l := letters()[10]
		l.Kind, l.Epoch, l.View = kind, 5, viewOf(1, 0, 0)
		got := node.Seal(l)
		if want := laid(func(w *wire.Writer) { w.Int(int64(kind)); w.Int(2) }); !bytes.Equal(got, want) {
			t.Errorf("%d: %x, want %x", kind, got, want)
		}
		notOpen(t, got)
	}
	// A letter has nothing of what is another kind's.
	l := node.Letter{Kind: active, Epoch: 5}
	more := node.Letter{Kind: active, Epoch: 5, View: viewOf(1, 0, 0), Cmd: cell.Cmd{Kind: 1}, Reply: cell.Reply{Err: 1}, Chat: relay.Msg{Kind: 1}}
	if a, b := node.Seal(l), node.Seal(more); !bytes.Equal(a, b) {
		t.Errorf("%x, %x", a, b)
	}
}

func notOpen(t *testing.T, b []byte) {
	t.Helper()
	if l, e := node.Open(b); !reflect.DeepEqual(l, node.Letter{}) || e != api.ErrForm {
		t.Errorf("%x: %+v, error %d", b, l, e)
	}
}

func TestP17_1Open(t *testing.T) {
	for _, l := range letters() {
		b := node.Seal(l)
		got, e := node.Open(b)
		if fmt.Sprintf("%+v", got) != fmt.Sprintf("%+v", l) || e != api.OK {
			t.Errorf("%x: %+v, error %d, want %+v", b, got, e, l)
		}
		for i := range b {
			notOpen(t, b[:i])
		}
		notOpen(t, append(slices.Clone(b), 0))
	}
}

func TestP17_1OpenForm(t *testing.T) {
	good := string(cell.Encode(cell.Cmd{Kind: 1}))
	chats := string(relay.Encode(relay.Msg{Kind: 1}))
	letter := func(kind int64, f func(w *wire.Writer)) []byte {
		return laid(func(w *wire.Writer) {
			w.Int(kind)
			w.Int(0)
			f(w)
		})
	}
	reply := func(deed uint64, s api.Stamp) func(w *wire.Writer) {
		return func(w *wire.Writer) {
			w.Text(good)
			w.Int(0)
			w.Num(deed)
			w.Int(0)
			w.Stamp(s)
		}
	}
	for _, b := range [][]byte{
		nil,
		letter(0, func(w *wire.Writer) {}), letter(6, func(w *wire.Writer) {}), letter(-1, func(w *wire.Writer) {}), letter(6, func(w *wire.Writer) { w.Int(0) }),
		letter(chat, func(w *wire.Writer) { w.Text("") }), letter(chat, func(w *wire.Writer) { w.Text(chats + "\x00") }), letter(chat, func(w *wire.Writer) { w.Text(chats[1:]) }), letter(chat, func(w *wire.Writer) { w.Text(chats); w.Num(0) }),
		letter(leads, func(w *wire.Writer) { w.Int(1); w.Int(0); w.Num(9); w.Text("12345678") }),
		letter(active, func(w *wire.Writer) {}), letter(active, func(w *wire.Writer) { w.Int(0); w.Int(0) }),
		letter(call, func(w *wire.Writer) { w.Text("") }), letter(call, func(w *wire.Writer) { w.Text(good + "\x00") }), letter(call, func(w *wire.Writer) { w.Text(chats) }), letter(call, reply(0, at(0, 0, 0))),
		letter(answer, func(w *wire.Writer) { w.Text(good) }), letter(answer, reply(maxTick+1, at(0, 0, 0))), letter(answer, reply(math.MaxUint64, at(0, 0, 0))),
		letter(answer, reply(0, at(maxWall+1, 0, 0))), letter(answer, reply(0, at(-1, 0, 0))),
		append([]byte{248, 6}, 0, 0), {247 + 8, 255, 255, 255, 255, 255, 255, 255, 255, 0},
	} {
		notOpen(t, b)
	}
	if l, e := node.Open(letter(answer, reply(maxTick, at(maxWall, 0, 0)))); l.Reply.Deed != maxTick || e != api.OK {
		t.Errorf("%+v, error %d", l, e)
	}
}

// What opens is its Seal, and no other bytes are.
func TestP17_1OpenAny(t *testing.T) {
	d := dice(1)
	opened := 0
	for range 60000 {
		l := letters()
		b := node.Seal(l[d.below(len(l))])
		for range d.below(3) {
			i := d.below(len(b))
			switch d.below(4) {
			case 0:
				b[i] = byte(d.below(256))
			case 1:
				b[i] ^= 1 << d.below(8)
			case 2:
				b = slices.Delete(b, i, i+1)
			case 3:
				b = slices.Insert(b, i, byte(d.below(256)))
			}
			if len(b) == 0 {
				break
			}
		}
		got, e := node.Open(b)
		if e == api.OK {
			opened++
			if again := node.Seal(got); !bytes.Equal(again, b) {
				t.Fatalf("%x opens as %+v, whose Seal is %x", b, got, again)
			}
		} else if e != api.ErrForm || !reflect.DeepEqual(got, node.Letter{}) {
			t.Fatalf("%x: %+v, error %d", b, got, e)
		}
	}
	if opened < 20000 || opened > 58000 {
		t.Errorf("%d opened", opened)
	}
}

// A letter may be as long as its message, or its command, may be.
func TestP17_1OpenLong(t *testing.T) {
	long := relay.Msg{Kind: relay.Offer, Log: slices.Repeat([]relay.Entry{{Epoch: 1, Cmd: make([]byte, 1<<18)}}, 5)}
	l := node.Letter{Kind: chat, Chat: long}
	if got, e := node.Open(node.Seal(l)); e != api.OK || fmt.Sprint(got) != fmt.Sprint(l) {
		t.Errorf("error %d", e)
	}
	long.Log = []relay.Entry{{Cmd: make([]byte, 1<<18+1)}}
	notOpen(t, node.Seal(node.Letter{Kind: chat, Chat: long}))
	long.Log = make([]relay.Entry, maxLog+1)
	notOpen(t, node.Seal(node.Letter{Kind: chat, Chat: long}))
	notOpen(t, node.Seal(node.Letter{Kind: call, Cmd: cell.Cmd{Writes: make([]api.Write, 65)}}))
	notOpen(t, node.Seal(node.Letter{Kind: call, Cmd: cell.Cmd{Token: string(make([]byte, 4097))}}))
	if l, e := node.Open(node.Seal(node.Letter{Kind: call, Cmd: cell.Cmd{Token: string(make([]byte, 4096))}})); e != api.OK || len(l.Cmd.Token) != 4096 {
		t.Errorf("error %d", e)
	}
}
