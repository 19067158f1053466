package tide

import (
	"reflect"
	"testing"

	"slackwater/api"
	"slackwater/cell"
	"slackwater/node"
	"slackwater/post"
	"slackwater/view"
)

// No node lets a message set out that is no letter, or of no shard, and no
// client is told anything but of its batches: such are put into the post from
// within.

func newOne(t *testing.T) *Tide {
	t.Helper()
	x, e := New(node.Config{Nodes: 4, Shards: 2, Offset: 100, Patience: 5}, 1<<20)
	if e != api.OK {
		t.Fatalf("New: error %d", e)
	}
	return x
}

func write() []api.Write { return []api.Write{{Time: 4, Kind: api.Sample, Num: 7}} }

// wantDelivered holds what Deliver answers of a message, which is taken then.
func wantDelivered(t *testing.T, x *Tide, to int, body []byte, want api.Errno) {
	t.Helper()
	if e := x.post.Send(post.Msg{From: 0, To: to, Body: body}); e != api.OK {
		t.Fatalf("Send: error %d", e)
	}
	if e := x.Deliver(x.Len()-1, 5); e != want || x.Len() != 0 {
		t.Errorf("to %d %x: error %d, want %d; %d are left", to, body, e, want, x.Len())
	}
}

func TestP18_1DeliverErrorsOfWhoIsNoNode(t *testing.T) {
	x := newOne(t)
	active := node.Seal(node.Letter{Kind: node.Active, Epoch: 1})
	for _, to := range []int{node.Control, node.Client} {
		for _, b := range [][]byte{nil, {0}, {99}, active[:len(active)-1], append(append([]byte{}, active...), 0), node.Seal(node.Letter{Kind: 6, Shard: 9})} {
			wantDelivered(t, x, to, b, api.ErrForm)
		}
		for _, s := range []int{-1, 2, 1 << 62, -1 << 63} {
			for _, l := range []node.Letter{
				{Kind: node.Active, Shard: s, Epoch: 1}, {Kind: node.Active, Shard: s, Epoch: 7}, {Kind: node.Call, Shard: s}, {Kind: node.Lead, Shard: s},
				{Kind: node.Answer, Shard: s, Cmd: cell.Cmd{Kind: cell.Begin, Token: "t"}, Reply: cell.Reply{Deed: 1, State: cell.Open}},
			} {
				wantDelivered(t, x, to, node.Seal(l), api.ErrArg)
			}
		}
	}
	// The control's: there is no such epoch.
	for _, epoch := range []int{0, -1, 2, 1 << 62} {
		wantDelivered(t, x, node.Control, node.Seal(node.Letter{Kind: node.Active, Epoch: epoch}), api.ErrArg)
		wantDelivered(t, x, node.Client, node.Seal(node.Letter{Kind: node.Active, Epoch: epoch}), api.OK)
	}
	if len(x.fates) != 0 || !reflect.DeepEqual(x.View(0), view.View{Epoch: 1, Primary: 0, Members: []int{0, 1, 2}}) {
		t.Errorf("%v, %+v", x.fates, x.View(0))
	}
}

// Of other letters, and of those that are for somebody else, nothing is noted.
func TestP18_1DeliverOfNothingToNote(t *testing.T) {
	x := newOne(t)
	if e := x.Change(0, 0, []int{0, 3}); e != api.OK {
		t.Fatalf("Change: error %d", e)
	}
	for x.Len() > 0 {
		x.Lose(0)
	}
	stands := cell.Reply{Deed: 1, State: cell.Done, At: api.Stamp{Wall: 5, Mark: 1}}
	for kind := -1; kind < 12; kind++ {
		b := node.Seal(node.Letter{Kind: node.Answer, Cmd: cell.Cmd{Kind: kind, Token: "t"}, Reply: stands})
		wantDelivered(t, x, node.Control, b, api.OK)
		if kind != cell.Begin {
			wantDelivered(t, x, node.Client, b, api.OK)
		}
		wantDelivered(t, x, node.Client, node.Seal(node.Letter{Kind: node.Call, Cmd: cell.Cmd{Kind: kind, Token: "t"}}), api.OK)
	}
	wantDelivered(t, x, node.Client, node.Seal(node.Letter{Kind: node.Active, Epoch: 2}), api.OK)
	wantDelivered(t, x, node.Control, node.Seal(node.Letter{Kind: node.Lead, View: view.View{Epoch: 2, Primary: 3, Members: []int{0, 3}}}), api.OK)
	// It is the other shard's, or of an epoch that is over.
	wantDelivered(t, x, node.Control, node.Seal(node.Letter{Kind: node.Active, Shard: 1, Epoch: 1}), api.OK)
	wantDelivered(t, x, node.Control, node.Seal(node.Letter{Kind: node.Active, Epoch: 1}), api.OK)
	if e := x.Change(0, 3, []int{3}); e != api.ErrView {
		t.Errorf("Change: error %d", e)
	}
	if r, ok := x.Fate("t"); ok {
		t.Errorf("%+v", r)
	}
	wantDelivered(t, x, node.Control, node.Seal(node.Letter{Kind: node.Active, Epoch: 2}), api.OK)
	if e := x.Change(0, 3, []int{3}); e != api.OK {
		t.Errorf("Change: error %d", e)
	}
}

// Of what isn't decided the last reply is known; of what is, the first one.
func TestP18_1DeliverOfAnswers(t *testing.T) {
	isOpen := cell.Reply{Deed: 1, State: cell.Open}
	refused := cell.Reply{Err: api.ErrToken}
	for _, fate := range []cell.Reply{{Deed: 1, State: cell.Done, At: api.Stamp{Wall: 5, Mark: 1}}, {Deed: 1, State: cell.Dropped}} {
		x := newOne(t)
		known := cell.Reply{}
		for _, r := range []cell.Reply{isOpen, refused, isOpen, {Err: api.ErrFull}, {Err: api.ErrArg}, isOpen, fate, isOpen, refused, {Deed: 2, State: cell.Done, At: api.Stamp{Wall: 9, Mark: 2}}, {Deed: 1, State: cell.Dropped}, fate} {
			b := node.Seal(node.Letter{Kind: node.Answer, Shard: 1, Cmd: cell.Cmd{Kind: cell.Begin, Token: "t"}, Reply: r})
			wantDelivered(t, x, node.Client, b, api.OK)
			if known != fate {
				known = r
			}
			if got, ok := x.Fate("t"); got != known || !ok {
				t.Fatalf("behind %+v %+v, %v, want %+v", r, got, ok, known)
			}
			if got, ok := x.Fate("u"); got != (cell.Reply{}) || ok {
				t.Fatalf("%+v, %v", got, ok)
			}
		}
	}
}

// A message for a node that isn't there is lost.
func TestP18_1DeliverToNoNode(t *testing.T) {
	x := newOne(t)
	for _, to := range []int{-1, 4, 89, 92, 1 << 62, -1 << 63} {
		wantDelivered(t, x, to, []byte{99}, api.OK)
	}
	wantDelivered(t, x, 3, []byte{99}, api.ErrForm)
}

// wantSent holds what is on its way.
func wantSent(t *testing.T, x *Tide, want ...post.Msg) {
	t.Helper()
	if got := x.post.All(); !reflect.DeepEqual(got, want) {
		t.Errorf("%v are on their way, want %v", got, want)
	}
}

func TestP18_3AnnounceMessages(t *testing.T) {
	x := newOne(t)
	x.Crash(2, nil)
	x.Announce(1)
	lead := func(v view.View) (l []post.Msg) {
		for n := range 4 {
			l = append(l, post.Msg{From: 90, To: n, Body: node.Seal(node.Letter{Kind: node.Lead, Shard: 1, View: v})})
		}
		return l
	}
	wantSent(t, x, lead(view.View{Epoch: 1, Primary: 1, Members: []int{1, 2, 3}})...)
	for x.Len() > 0 {
		x.Lose(0)
	}
	x.Change(1, 3, []int{0, 3})
	wantSent(t, x, lead(view.View{Epoch: 2, Primary: 3, Members: []int{0, 3}})...)
}

func TestP18_4CallMessages(t *testing.T) {
	x := newOne(t)
	call := func(to, s int, m cell.Cmd) post.Msg {
		return post.Msg{From: 91, To: to, Body: node.Seal(node.Letter{Kind: node.Call, Shard: s, Cmd: m})}
	}
	tokens := []string{"t", "t"}
	for k := 0; node.Home(tokens[0], 2) != 0 || node.Home(tokens[1], 2) != 1; k++ {
		tokens[node.Home("t"+string(rune('a'+k)), 2)] = "t" + string(rune('a'+k))
	}
	x.Submit(tokens[1], write())
	x.Submit(tokens[0], write())
	pin := cell.Cmd{Kind: cell.Pin, At: api.Stamp{Wall: 5}, N: 6, Id: 7}
	x.Order(1, pin)
	with := pin
	with.Deed, with.Yes, with.Token, with.Writes = 1, true, "t", write()
	x.Order(0, with)
	wantSent(t, x,
		call(1, 1, cell.Cmd{Kind: cell.Begin, Token: tokens[1], Writes: write()}),
		call(0, 0, cell.Cmd{Kind: cell.Begin, Token: tokens[0], Writes: write()}),
		call(1, 1, pin), call(0, 0, pin))
}
