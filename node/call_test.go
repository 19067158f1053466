package node_test

import (
	"fmt"
	"reflect"
	"testing"

	"slackwater/api"
	"slackwater/cell"
	"slackwater/node"
	"slackwater/relay"
)

// Tests of P17.2: what is proposed, and what is answered, to calls.

// called lets a node take a call.
func called(t *testing.T, n *node.Node, from, s int, m cell.Cmd) []sent {
	t.Helper()
	return take(t, n, from, node.Letter{Kind: call, Shard: s, Cmd: m}, 0)
}

// answers is an Answer of the node 0 to a call.
func answers(to, s int, m cell.Cmd, r cell.Reply) sent {
	m.Writes = nil
	return sent{0, to, node.Letter{Kind: answer, Shard: s, Cmd: m, Reply: r}}
}

// enters holds that a command is entered, as it is, as the last one, of which
// a node that holds the shard alone tells nobody.
func enters(t *testing.T, n *node.Node, from, s int, m cell.Cmd) {
	t.Helper()
	was := len(n.Sure(s))
	want(t, called(t, n, from, s, m))
	l := n.Sure(s)
	if len(l) != was+1 || string(l[was]) != string(cell.Encode(m)) {
		t.Fatalf("%+v: %d entries, the last %x, there were %d", m, len(l), l[len(l)-1], was)
	}
}

// asIs holds that a call enters nothing.
func asIs(t *testing.T, n *node.Node, from, s int, m cell.Cmd, outs ...sent) {
	t.Helper()
	was := tell(n)
	want(t, called(t, n, from, s, m), outs...)
	if is := tell(n); is != was {
		t.Fatalf("%+v: is %s, was %s", m, is, was)
	}
}

func batchOf(num int64) []api.Write { return []api.Write{{Time: 2, Kind: api.Sample, Num: num}} }

func TestP17_2CallBegin(t *testing.T) {
	n := lone(t, 2)
	for _, m := range []cell.Cmd{
		{Token: "", Writes: batchOf(1)}, {Token: "a b", Writes: batchOf(1)}, {Token: string(make([]byte, 33)), Writes: batchOf(1)},
		{Token: "t"}, {Token: "t", Writes: []api.Write{{Kind: 7}}}, {Token: "t", Writes: append(batchOf(1), batchOf(2)...)},
	} {
		m.Kind = begin
		asIs(t, n, client, 1, m, answers(client, 1, m, cell.Reply{Err: api.ErrArg}))
	}
	m := cell.Cmd{Kind: begin, Token: "t", Writes: batchOf(1), Deed: 9, At: at(5, 0, 0), Yes: true, N: 5, Id: 6}
	enters(t, n, client, 1, m)
	asIs(t, n, client, 1, m, answers(client, 1, m, cell.Reply{Deed: 2, State: open}))
	// To whom the call came from, also where that is the node.
	asIs(t, n, 0, 1, m, answers(0, 1, m, cell.Reply{Deed: 2, State: open}))
	asIs(t, n, -7, 1, m, answers(-7, 1, m, cell.Reply{Deed: 2, State: open}))
	m.Writes = batchOf(2)
	asIs(t, n, client, 1, m, answers(client, 1, m, cell.Reply{Err: api.ErrToken}))
	m.Writes = nil
	asIs(t, n, client, 1, m, answers(client, 1, m, cell.Reply{Err: api.ErrArg}))
	// Whose home the token is, isn't asked.
	m.Writes = batchOf(1)
	enters(t, n, client, 0, m)
	asIs(t, n, client, 0, m, answers(client, 0, m, cell.Reply{Deed: 1, State: open}))
}

// A batch whose fate is decided is told as decided.
func TestP17_2CallBeginDecided(t *testing.T) {
	n := lone(t, 1)
	m := cell.Cmd{Kind: begin, Token: "t", Writes: batchOf(1)}
	enters(t, n, client, 0, m)
	for phys := range int64(4) {
		clicks(t, n, 10+phys)
	}
	asIs(t, n, client, 0, m, answers(client, 0, m, cell.Reply{Deed: 1, State: done, At: at(10, 1, 1)}))
	m.Writes = batchOf(2)
	asIs(t, n, client, 0, m, answers(client, 0, m, cell.Reply{Err: api.ErrToken}))
}

func TestP17_2CallBeginFull(t *testing.T) {
	n := lone(t, 1)
	for i := range maxDeeds {
		called(t, n, client, 0, cell.Cmd{Kind: begin, Token: fmt.Sprint(i), Writes: batchOf(1)})
	}
	m := cell.Cmd{Kind: begin, Token: "t", Writes: batchOf(1)}
	if s := n.State(0); s.Len != maxDeeds || s.Open != maxDeeds {
		t.Fatalf("%+v", s)
	}
	asIs(t, n, client, 0, m, answers(client, 0, m, cell.Reply{Err: api.ErrFull}))
	m.Token = "7"
	asIs(t, n, client, 0, m, answers(client, 0, m, cell.Reply{Deed: 29, State: open}))
	m.Writes = batchOf(2)
	asIs(t, n, client, 0, m, answers(client, 0, m, cell.Reply{Err: api.ErrToken}))
	m.Token = ""
	asIs(t, n, client, 0, m, answers(client, 0, m, cell.Reply{Err: api.ErrArg}))
}

func TestP17_2CallPrepare(t *testing.T) {
	n := lone(t, 2)
	clicks(t, n, 5)
	m := cell.Cmd{Kind: prepare, Deed: 77, At: at(9, 3, 4), Token: "x", Writes: batchOf(1)}
	enters(t, n, 3, 1, m)
	asIs(t, n, 3, 1, m, answers(3, 1, m, cell.Reply{Deed: 77, State: open, At: at(9, 3, 77)}))
	m.Writes, m.At = nil, at(20, 0, 0)
	asIs(t, n, 2, 1, m, answers(2, 1, m, cell.Reply{Deed: 77, State: open, At: at(9, 3, 77)}))
	enters(t, n, 3, 0, cell.Cmd{Kind: prepare, Deed: 77, At: at(9, 3, 4), Writes: batchOf(1)})

	m = cell.Cmd{Kind: prepare, Deed: 78, At: at(9, 3, 4), Writes: append(batchOf(1), batchOf(2)...)}
	enters(t, n, 3, 1, m)
	asIs(t, n, 3, 1, m, answers(3, 1, m, cell.Reply{Err: api.ErrArg, Deed: 78}))
	m.Writes = batchOf(1)
	asIs(t, n, 3, 1, m, answers(3, 1, m, cell.Reply{Err: api.ErrArg, Deed: 78}))
	// Of each shard by itself.
	enters(t, n, 3, 0, m)
	// A cell that knows the deed goes ahead of what was refused.
	enters(t, n, 3, 1, cell.Cmd{Kind: resolve, Deed: 78})
	asIs(t, n, 3, 1, m, answers(3, 1, m, cell.Reply{Deed: 78, State: dropped}))

	m = cell.Cmd{Kind: prepare, Writes: batchOf(1)}
	enters(t, n, 3, 1, m)
	asIs(t, n, 3, 1, m, answers(3, 1, m, cell.Reply{Err: api.ErrArg}))
}

// What was refused is known to a node that is made anew, too, and to one that
// got the log from elsewhere.
func TestP17_2CallPrepareRefused(t *testing.T) {
	c, d := conf(2, 1), newDisk(t, 1<<20)
	n := load(t, 0, c, d)
	m := cell.Cmd{Kind: prepare, Deed: 78, At: at(9, 3, 4)}
	lead(t, n, 0, viewOf(1, 0, 0))
	enters(t, n, 3, 0, m)
	n = load(t, 0, c, d)
	asIs(t, n, 3, 0, m, answers(3, 0, m, cell.Reply{Err: api.ErrArg, Deed: 78}))
	other := make1(t, 1, c)
	lead(t, n, 0, viewOf(2, 0, 0, 1))
	for range 2 {
		for _, x := range of(chat, clicks(t, n, 5)) {
			for _, y := range take(t, other, 0, x.l, 5) {
				take(t, n, 1, y.l, 5)
			}
		}
	}
	lead(t, other, 0, viewOf(3, 1, 1))
	want(t, take(t, other, 3, node.Letter{Kind: call, Cmd: m}, 5), sent{1, 3, node.Letter{Kind: answer, Cmd: m, Reply: cell.Reply{Err: api.ErrArg, Deed: 78}}})
}

func TestP17_2CallResolve(t *testing.T) {
	n := lone(t, 1)
	clicks(t, n, 5)
	yes := cell.Cmd{Kind: resolve, Deed: 77, Yes: true, At: at(9, 3, 77)}
	asIs(t, n, 3, 0, yes)
	called(t, n, 3, 0, cell.Cmd{Kind: prepare, Deed: 77, At: at(9, 0, 0), Writes: batchOf(1)})
	enters(t, n, 3, 0, yes)
	asIs(t, n, 3, 0, yes, answers(3, 0, yes, cell.Reply{Deed: 77, State: done, At: at(9, 3, 77)}))
	no := cell.Cmd{Kind: resolve, Deed: 77}
	asIs(t, n, 2, 0, no, answers(2, 0, no, cell.Reply{Deed: 77, State: done, At: at(9, 3, 77)}))
	no.Deed = 78
	enters(t, n, 2, 0, no)
	asIs(t, n, 2, 0, no, answers(2, 0, no, cell.Reply{Deed: 78, State: dropped}))
	// One that is refused changes nothing, and may be entered again.
	called(t, n, 3, 0, cell.Cmd{Kind: prepare, Deed: 79, At: at(9, 0, 0), Writes: batchOf(1)})
	wrong := cell.Cmd{Kind: resolve, Deed: 79, Yes: true, At: at(9, 3, 7)}
	enters(t, n, 3, 0, wrong)
	enters(t, n, 3, 0, wrong)
	enters(t, n, 3, 0, cell.Cmd{Kind: resolve, Deed: 79})
}

func TestP17_2CallOthers(t *testing.T) {
	n := lone(t, 2)
	clicks(t, n, 5)
	for _, m := range []cell.Cmd{
		{Kind: cut, At: at(3, 0, 0)}, {Kind: cut, At: at(3, 0, 0)}, {Kind: retain, N: 7}, {Kind: retain, N: -7}, {Kind: pin, Id: 3, At: at(4, 0, 0), N: 9}, {Kind: pin, Id: 99, Token: "x", Writes: batchOf(1)},
	} {
		enters(t, n, client, 1, m)
	}
	if s := n.State(1); s.Safe != at(3, 0, 0) {
		t.Errorf("%+v", s)
	}
	for _, kind := range []int{0, decide, closes, tick, 10, -1, 1 << 40} {
		asIs(t, n, client, 1, cell.Cmd{Kind: kind, Deed: 1, At: at(7, 0, 1), Yes: true, Token: "t", Writes: batchOf(1)})
	}
}

// all are a call of each kind.
func all() []cell.Cmd {
	return []cell.Cmd{
		{Kind: begin, Token: "t", Writes: batchOf(1)}, {Kind: begin}, {Kind: prepare, Deed: 77, Writes: batchOf(1)}, {Kind: resolve, Deed: 77}, {Kind: resolve, Deed: 77, Yes: true},
		{Kind: cut}, {Kind: retain}, {Kind: pin, N: 1}, {Kind: tick}, {Kind: decide}, {Kind: closes}, {Kind: 0},
	}
}

// Nothing is done where the relay isn't active: without a view, as a backup,
// as long as a member hasn't the log, and behind a view that went elsewhere.
func TestP17_2CallIdle(t *testing.T) {
	c := conf(2, 2)
	n := make1(t, 0, c)
	idle := func() {
		t.Helper()
		for _, m := range all() {
			asIs(t, n, client, 1, m)
		}
	}
	idle()
	lead(t, n, 1, viewOf(1, 1, 0, 1))
	idle()
	lead(t, n, 1, viewOf(2, 0, 0, 1))
	idle()
	ack(t, n, 1, 1, 2, 0)
	if m := all()[1]; len(called(t, n, client, 1, m)) != 1 {
		t.Error("it isn't active")
	}
	lead(t, n, 1, viewOf(3, 1, 0, 1))
	idle()
}

// held is a node that leads the shard 0 with the member 1, who has its log so
// far, and acks nothing by itself.
func held(t *testing.T) *node.Node {
	t.Helper()
	n := make1(t, 0, conf(2, 1))
	lead(t, n, 0, viewOf(1, 0, 0, 1))
	ack(t, n, 1, 0, 1, 0)
	return n
}

// ships holds that a call is entered at a place, and shipped.
func ships(t *testing.T, n *node.Node, m cell.Cmd, place, sure int) {
	t.Helper()
	x := relay.Msg{Kind: relay.Ship, Epoch: 1, Index: place, Sure: sure, Log: []relay.Entry{{Epoch: 1, Cmd: cell.Encode(m)}}}
	want(t, called(t, n, client, 0, m), sent{0, 1, node.Letter{Kind: chat, Chat: x}})
	if s := n.State(0); s.Len != place || s.Sure != sure {
		t.Fatalf("%+v", s)
	}
}

// Of like commands one is enough, as long as it isn't applied.
func TestP17_2CallLike(t *testing.T) {
	n := held(t)
	m := cell.Cmd{Kind: begin, Token: "t", Writes: batchOf(1)}
	ships(t, n, m, 1, 0)
	asIs(t, n, client, 0, m)
	m.Writes = batchOf(2)
	asIs(t, n, client, 0, m)
	ships(t, n, cell.Cmd{Kind: begin, Token: "u", Writes: batchOf(1)}, 2, 0)

	ships(t, n, cell.Cmd{Kind: prepare, Deed: 7, At: at(5, 0, 0), Writes: batchOf(1)}, 3, 0)
	asIs(t, n, client, 0, cell.Cmd{Kind: prepare, Deed: 7, At: at(6, 0, 0), Writes: batchOf(2)})
	ships(t, n, cell.Cmd{Kind: prepare, Deed: 8, At: at(5, 0, 0), Writes: batchOf(1)}, 4, 0)

	ships(t, n, cell.Cmd{Kind: resolve, Deed: 7}, 5, 0)
	asIs(t, n, client, 0, cell.Cmd{Kind: resolve, Deed: 7, N: 9})
	ships(t, n, cell.Cmd{Kind: resolve, Deed: 8, At: at(5, 0, 0)}, 6, 0)

	ships(t, n, cell.Cmd{Kind: cut, At: at(5, 0, 0)}, 7, 0)
	asIs(t, n, client, 0, cell.Cmd{Kind: cut, At: at(5, 0, 0)})
	ships(t, n, cell.Cmd{Kind: cut, At: at(6, 0, 0)}, 8, 0)
	ships(t, n, cell.Cmd{Kind: retain, N: 5}, 9, 0)
	asIs(t, n, client, 0, cell.Cmd{Kind: retain, N: 5})
	ships(t, n, cell.Cmd{Kind: retain, N: 6}, 10, 0)
	ships(t, n, cell.Cmd{Kind: pin, Id: 1, N: 5}, 11, 0)
	asIs(t, n, client, 0, cell.Cmd{Kind: pin, Id: 1, N: 5})
	ships(t, n, cell.Cmd{Kind: pin, Id: 2, N: 5}, 12, 0)

	// What is applied stands in the way no more.
	ack(t, n, 1, 0, 1, 7)
	asIs(t, n, client, 0, cell.Cmd{Kind: cut, At: at(6, 0, 0)})
	ships(t, n, cell.Cmd{Kind: cut, At: at(5, 0, 0)}, 13, 7)
	asIs(t, n, client, 0, cell.Cmd{Kind: pin, Id: 1, N: 5})
	m.Writes = batchOf(1)
	asIs(t, n, client, 0, m, answers(client, 0, m, cell.Reply{Deed: 1, State: open}))
	ack(t, n, 1, 0, 1, 13)
	ships(t, n, cell.Cmd{Kind: pin, Id: 1, N: 5}, 14, 13)
}

// Likes are looked for in the log as it is, from wherever its entries came: a
// backup's log goes on, is offered anew, and is loaded.
func TestP17_2CallLikeOfOthers(t *testing.T) {
	c, d := conf(2, 1), newDisk(t, 1<<20)
	n := load(t, 0, c, d)
	cuts := func(wall int64) cell.Cmd { return cell.Cmd{Kind: cut, At: at(wall, 0, 0)} }
	of := func(l ...cell.Cmd) []relay.Entry {
		var all []relay.Entry
		for _, m := range l {
			all = append(all, relay.Entry{Epoch: 1, Cmd: cell.Encode(m)})
		}
		return all
	}
	chats := func(m relay.Msg) { take(t, n, 1, node.Letter{Kind: chat, Chat: m}, 0) }
	v := viewOf(2, 1, 0, 1)
	offer := relay.Msg{Kind: relay.Offer, Epoch: 2, View: v, Log: of(cuts(1), cuts(2), cuts(2))}
	chats(offer)
	chats(relay.Msg{Kind: relay.Ship, Epoch: 2, Index: 4, Sure: 1, Log: of(cuts(3))})
	n = load(t, 0, c, d)
	// An Ack that was late: all members have two of the entries, as far as the
	// primary knows.
	lead(t, n, 0, viewOf(3, 0, 0, 1))
	ack(t, n, 1, 0, 3, 2)
	if s := n.State(0); !s.Active || s.Len != 4 || s.Sure != 2 {
		t.Fatalf("%+v", s)
	}
	asIs(t, n, client, 0, cuts(2))
	asIs(t, n, client, 0, cuts(3))
	ack(t, n, 1, 0, 3, 3)
	if called(t, n, client, 0, cuts(2)); n.State(0).Len != 5 {
		t.Fatalf("%+v", n.State(0))
	}
	asIs(t, n, client, 0, cuts(2))
	// Of two that were alike one is applied: the other one still waits.
	n = load(t, 0, c, d)
	ack(t, n, 1, 0, 3, 1)
	asIs(t, n, client, 0, cuts(2))
	ack(t, n, 1, 0, 3, 2)
	asIs(t, n, client, 0, cuts(2))
	ack(t, n, 1, 0, 3, 3)
	asIs(t, n, client, 0, cuts(2))
	// Another primary knew of none of these; its log takes their place.
	w := viewOf(4, 1, 0, 1)
	chats(relay.Msg{Kind: relay.Offer, Epoch: 4, View: w, Log: of(cuts(1), cuts(2), cuts(2), cuts(9))})
	lead(t, n, 0, viewOf(5, 0, 0, 1))
	ack(t, n, 1, 0, 5, 3)
	asIs(t, n, client, 0, cuts(9))
	for _, wall := range []int64{2, 3} {
		was := n.State(0).Len
		if called(t, n, client, 0, cuts(wall)); n.State(0).Len != was+1 {
			t.Fatalf("%d: %+v", wall, n.State(0))
		}
	}
}

// A log that is full takes nothing more, and says so to nobody.
func TestP17_2CallLogFull(t *testing.T) {
	n := make1(t, 0, conf(2, 1))
	l := make([]relay.Entry, maxLog-1)
	for i := range l {
		l[i].Cmd = cell.Encode(cell.Cmd{Kind: tick})
	}
	take(t, n, 1, node.Letter{Kind: chat, Chat: relay.Msg{Kind: relay.Offer, Epoch: 1, View: viewOf(1, 1, 0, 1), Log: l}}, 0)
	lead(t, n, 0, viewOf(2, 0, 0))
	enters(t, n, client, 0, cell.Cmd{Kind: retain, N: 5})
	asIs(t, n, client, 0, cell.Cmd{Kind: retain, N: 6})
	was := tell(n)
	want(t, clicks(t, n, 5), sent{0, control, node.Letter{Kind: active, Epoch: 2}})
	if is := tell(n); is != was {
		t.Error("it changed")
	}
}

// A command that is too great isn't entered.
func TestP17_2CallTooGreat(t *testing.T) {
	n := lone(t, 1)
	text := string(make([]byte, 4096))
	m := cell.Cmd{Kind: pin, Writes: make([]api.Write, 63)}
	for i := range m.Writes {
		m.Writes[i].Text = text
	}
	enters(t, n, client, 0, m)
	m.Writes = append(m.Writes, api.Write{Text: text})
	asIs(t, n, client, 0, m)
}

// Letters of any kinds, from anyone, with any numbers, in any order: each call
// ends, and what is answered is right.
func TestR1Letters(t *testing.T) {
	for seed := range 60 {
		d := dice(seed)
		n := make1(t, d.below(3), conf(3, 2))
		for range 300 {
			l := anyLetter(&d)
			outs, e := n.Take(msg(d.below(4), l), oneOf(&d, 0, 5, 40, -1, maxWall, int64(d.below(3000))))
			if e != api.OK && len(outs) > 0 {
				t.Fatalf("%+v: %v, error %d", l, outs, e)
			}
			read(t, outs)
			if d.in(4) {
				outs, _ := n.Tick(oneOf(&d, 0, 5, 40, -1, maxWall-7, int64(d.below(3000))))
				read(t, outs)
			}
			for s := range 2 {
				x := n.State(s)
				if sure := n.Sure(s); len(sure) != min(x.Sure, x.Len) {
					t.Fatalf("%+v: %d", x, len(sure))
				}
			}
		}
	}
}

func anyLetter(d *dice) node.Letter {
	small := func() int { return d.below(6) - 1 }
	s := at(int64(d.below(100)), uint32(d.below(3)), uint32(d.below(9)))
	members := oneOf(d, []int{0}, []int{0, 1}, []int{1, 2}, []int{0, 1, 2}, []int{2})
	v := viewOf(d.below(9), oneOf(d, members...), members...)
	m := cell.Cmd{Kind: d.below(11), Deed: uint32(d.below(12)), At: s, Yes: d.in(2), Token: oneOf(d, "t", "u", "v", ""), N: int64(small()), Id: small(), Writes: batchOf(int64(d.below(2)))}
	if d.in(2) {
		m.Writes = []api.Write{sample(0, 2, 3), sample(1, 2, 3)}
	}
	x := relay.Msg{Kind: d.below(5), Epoch: v.Epoch, View: v, Index: small(), Sure: small()}
	for range d.below(4) {
		x.Log = append(x.Log, relay.Entry{Epoch: small(), Cmd: oneOf(d, cell.Encode(m), nil, []byte("x"))})
	}
	if d.in(3) {
		x.Kind, x.Index = relay.Ack, d.below(20)
	}
	r := cell.Reply{Err: api.Errno(small() / 2), Deed: m.Deed, State: small(), At: s}
	return node.Letter{Kind: oneOf(d, chat, leads, active, call, answer), Shard: small() / 2, Chat: x, View: v, Epoch: small(), Cmd: m, Reply: r}
}

// The answer to a call has the command's other fields, as they came.
func TestP17_2AnswerHasCommand(t *testing.T) {
	n := lone(t, 1)
	m := cell.Cmd{Kind: begin, Deed: 3, At: at(4, 5, 6), Yes: true, Token: "", N: -7, Id: -8, Writes: batchOf(9)}
	outs := called(t, n, client, 0, m)
	m.Writes = nil
	if len(outs) != 1 || !reflect.DeepEqual(outs[0].l.Cmd, m) || outs[0].l.Reply.Err != api.ErrArg {
		t.Errorf("%v", outs)
	}
}
