package post_test

import (
	"math"
	"slices"
	"strings"
	"testing"

	"slackwater/api"
	"slackwater/post"
)

// The limits stand here as numbers, so that the tests hold them, too.
const (
	maxQueue = 4096
	maxBody  = 1 << 20
)

// dice throws the same numbers in each run.
type dice uint64

func (d *dice) next() uint64 {
	*d = *d*6364136223846793005 + 1442695040888963407
	x := uint64(*d)
	return x ^ x>>29
}

func (d *dice) below(n int) int { return int(d.next() >> 8 % uint64(n)) }

// mail is a message as it can be held against others.
type mail struct {
	from, to int
	body     string
}

func (m mail) msg() post.Msg {
	return post.Msg{From: m.from, To: m.to, Body: []byte(m.body)}
}

func mailOf(m post.Msg) mail { return mail{m.From, m.To, string(m.Body)} }

func msg(from, to int, body string) post.Msg { return mail{from, to, body}.msg() }

func make1(t *testing.T, room int) *post.Post {
	t.Helper()
	p, e := post.New(room)
	if p == nil || e != api.OK {
		t.Fatalf("New(%d): %v, error %d", room, p, e)
	}
	return p
}

func want(t *testing.T, what string, got, e api.Errno) {
	t.Helper()
	if got != e {
		t.Errorf("%s: error %d, want %d", what, got, e)
	}
}

// ok holds that some calls, done one behind the other, are all done.
func ok(t *testing.T, calls ...api.Errno) {
	t.Helper()
	for i, e := range calls {
		if e != api.OK {
			t.Fatalf("the %d-th call: error %d", i, e)
		}
	}
}

// wantAll holds what stands in a post, as each of its calls tells it.
func wantAll(t *testing.T, p *post.Post, all ...mail) {
	t.Helper()
	var got []mail
	for _, m := range p.All() {
		got = append(got, mailOf(m))
	}
	if !slices.Equal(got, all) {
		t.Errorf("All: %v, want %v", got, all)
	}
	if p.Len() != len(all) {
		t.Errorf("Len: %d, want %d", p.Len(), len(all))
	}
	for i, m := range all {
		if got, e := p.Look(i); mailOf(got) != m || e != api.OK {
			t.Errorf("Look(%d): %v, error %d, want %v", i, mailOf(got), e, m)
		}
	}
	wantNone(t, p, -1, api.ErrArg)
	wantNone(t, p, len(all), api.ErrArg)
}

// wantNone holds that there is no i-th message.
func wantNone(t *testing.T, p *post.Post, i int, e api.Errno) {
	t.Helper()
	if m, f := p.Look(i); mailOf(m) != (mail{}) || f != e {
		t.Errorf("Look(%d): %v, error %d, want error %d", i, m, f, e)
	}
	if m, f := p.Take(i); mailOf(m) != (mail{}) || f != e {
		t.Errorf("Take(%d): %v, error %d, want error %d", i, m, f, e)
	}
	if f := p.Copy(i); f != e {
		t.Errorf("Copy(%d): error %d, want %d", i, f, e)
	}
}

func wantTake(t *testing.T, p *post.Post, i int, want mail) {
	t.Helper()
	if m, e := p.Take(i); mailOf(m) != want || e != api.OK {
		t.Errorf("Take(%d): %v, error %d, want %v", i, mailOf(m), e, want)
	}
}

func TestP8_1New(t *testing.T) {
	for _, room := range []int{0, 1, 2, maxQueue - 1, maxQueue} {
		wantAll(t, make1(t, room))
	}
	for _, room := range []int{-1, maxQueue + 1, math.MinInt, math.MaxInt} {
		if p, e := post.New(room); p != nil || e != api.ErrArg {
			t.Errorf("New(%d): %v, error %d", room, p, e)
		}
	}
}

func TestP8_1SendIsTheLastOne(t *testing.T) {
	p := make1(t, 10)
	sent := []mail{
		{1, 2, "a"}, {2, 1, "b"}, {1, 2, "a"}, {0, 0, ""}, {-1, math.MinInt, "\x00\xff"}, {math.MaxInt, 0, strings.Repeat("x", 1000)},
	}
	for i, m := range sent {
		ok(t, p.Send(m.msg()))
		wantAll(t, p, sent[:i+1]...)
	}
}

func TestP8_1SendErrorsInTheirOrder(t *testing.T) {
	p := make1(t, 1)
	long := make([]byte, maxBody+1)
	want(t, "Send of a long body", p.Send(post.Msg{Body: long}), api.ErrLimit)
	wantAll(t, p)
	ok(t, p.Send(post.Msg{From: 3, Body: long[1:]}))
	wantAll(t, p, mail{3, 0, string(long[1:])})
	want(t, "Send of a long body, without room", p.Send(post.Msg{Body: long}), api.ErrLimit)
	want(t, "Send without room", p.Send(post.Msg{}), api.ErrFull)
	want(t, "Send without room", p.Send(post.Msg{Body: long[1:]}), api.ErrFull)
	wantAll(t, p, mail{3, 0, string(long[1:])})
	want(t, "Send by a nil post", (*post.Post)(nil).Send(post.Msg{Body: long}), api.ErrNil)
}

func TestP8_1LookLeavesItThere(t *testing.T) {
	p := make1(t, 3)
	ok(t, p.Send(msg(1, 2, "a")), p.Send(msg(3, 4, "b")), p.Send(msg(5, 6, "c")))
	for range 3 {
		wantAll(t, p, mail{1, 2, "a"}, mail{3, 4, "b"}, mail{5, 6, "c"})
	}
}

func TestP8_1Take(t *testing.T) {
	a, b, c, d := mail{1, 0, "a"}, mail{2, 0, "b"}, mail{3, 0, "c"}, mail{4, 0, "d"}
	all := []mail{a, b, c, d}
	for i := range all {
		p := make1(t, 4)
		for _, m := range all {
			ok(t, p.Send(m.msg()))
		}
		wantTake(t, p, i, all[i])
		wantAll(t, p, slices.Delete(slices.Clone(all), i, i+1)...)
	}
	p := make1(t, 4)
	for _, m := range all {
		ok(t, p.Send(m.msg()))
	}
	wantTake(t, p, 1, b)
	wantTake(t, p, 2, d)
	wantTake(t, p, 0, a)
	wantTake(t, p, 0, c)
	wantAll(t, p)
}

func TestP8_1NoSuchMessage(t *testing.T) {
	p := make1(t, 3)
	for _, i := range []int{0, 1, -1, math.MinInt, math.MaxInt} {
		wantNone(t, p, i, api.ErrArg)
	}
	ok(t, p.Send(msg(1, 2, "a")), p.Send(msg(3, 4, "b")))
	for _, i := range []int{2, 3, 4, -1, math.MinInt, math.MaxInt} {
		wantNone(t, p, i, api.ErrArg)
	}
	wantAll(t, p, mail{1, 2, "a"}, mail{3, 4, "b"})
}

func TestP8_1Copy(t *testing.T) {
	p := make1(t, 5)
	a, b, c := mail{1, 2, "a"}, mail{3, 4, "b"}, mail{5, 6, ""}
	ok(t, p.Send(a.msg()), p.Send(b.msg()), p.Send(c.msg()), p.Copy(1))
	wantAll(t, p, a, b, c, b)
	ok(t, p.Copy(0))
	wantAll(t, p, a, b, c, b, a)
	want(t, "Copy without room", p.Copy(2), api.ErrFull)
	want(t, "Copy of none, without room", p.Copy(5), api.ErrArg)
	want(t, "Copy of none, without room", p.Copy(-1), api.ErrArg)
	wantAll(t, p, a, b, c, b, a)
	// Each of the two is taken by itself.
	wantTake(t, p, 1, b)
	wantAll(t, p, a, c, b, a)
	ok(t, p.Copy(1))
	wantAll(t, p, a, c, b, a, c)
	wantTake(t, p, 2, b)
	wantAll(t, p, a, c, a, c)
}

func TestP8_1Examples(t *testing.T) {
	p := make1(t, 1)
	a, b := mail{1, 2, "a"}, mail{1, 2, "b"}
	ok(t, p.Send(a.msg()))
	want(t, "Send b", p.Send(b.msg()), api.ErrFull)
	wantTake(t, p, 0, a)
	ok(t, p.Send(b.msg()))
	want(t, "Copy(0)", p.Copy(0), api.ErrFull)
	wantAll(t, p, b)
}

func TestP8_2Room(t *testing.T) {
	for _, room := range []int{0, 1, 2, 7, maxQueue} {
		p := make1(t, room)
		for i := range room {
			if i%2 == 0 {
				ok(t, p.Send(msg(i, 0, "a")))
			} else {
				ok(t, p.Copy(i-1))
			}
		}
		for range 3 {
			want(t, "Send without room", p.Send(msg(0, 0, "")), api.ErrFull)
		}
		if p.Len() != room || len(p.All()) != room {
			t.Errorf("room %d: %d, %d are there", room, p.Len(), len(p.All()))
		}
		if room == 0 {
			continue
		}
		want(t, "Copy without room", p.Copy(0), api.ErrFull)
		// Each one that is taken makes room for one, of either kind.
		for i := range room {
			wantTake(t, p, 0, mail{i - i%2, 0, "a"})
		}
		for i := range room {
			ok(t, p.Send(msg(-i, 0, "b")))
		}
		want(t, "Send without room", p.Send(msg(0, 0, "")), api.ErrFull)
		wantTake(t, p, room-1, mail{1 - room, 0, "b"})
		want(t, "Copy of none", p.Copy(room-1), api.ErrArg)
		ok(t, p.Send(msg(9, 9, "c")))
		want(t, "Copy without room", p.Copy(0), api.ErrFull)
		wantTake(t, p, room-1, mail{9, 9, "c"})
		if room > 1 {
			ok(t, p.Copy(0))
			want(t, "Send without room", p.Send(msg(0, 0, "")), api.ErrFull)
		}
	}
}

func TestP8_2RefusedCallsTakeNoPlace(t *testing.T) {
	p := make1(t, 2)
	ok(t, p.Send(msg(1, 0, "a")))
	for range 5 {
		want(t, "Send of a long body", p.Send(post.Msg{Body: make([]byte, maxBody+1)}), api.ErrLimit)
		wantNone(t, p, 1, api.ErrArg)
		wantNone(t, p, -1, api.ErrArg)
	}
	ok(t, p.Copy(0))
	for range 5 {
		want(t, "Send without room", p.Send(msg(2, 0, "b")), api.ErrFull)
		want(t, "Copy without room", p.Copy(0), api.ErrFull)
		wantNone(t, p, 2, api.ErrArg)
	}
	wantTake(t, p, 0, mail{1, 0, "a"})
	// None of them gave one back, either.
	ok(t, p.Send(msg(2, 0, "b")))
	want(t, "Send without room", p.Send(msg(3, 0, "c")), api.ErrFull)
	wantAll(t, p, mail{1, 0, "a"}, mail{2, 0, "b"})
}

// step does one thing to a post and to the model, a list, and holds that the
// two answer alike.
func step(t *testing.T, d *dice, p *post.Post, room int, l []mail) []mail {
	t.Helper()
	i := d.below(len(l)+3) - 1
	there := i >= 0 && i < len(l)
	switch d.below(8) {
	case 0, 1, 2:
		m := mail{d.below(4), d.below(4), strings.Repeat("x", d.below(5))}
		if len(l) == room {
			want(t, "Send", p.Send(m.msg()), api.ErrFull)
			return l
		}
		want(t, "Send", p.Send(m.msg()), api.OK)
		return append(l, m)
	case 3, 4:
		if !there {
			want(t, "Copy", p.Copy(i), api.ErrArg)
			return l
		}
		if len(l) == room {
			want(t, "Copy", p.Copy(i), api.ErrFull)
			return l
		}
		want(t, "Copy", p.Copy(i), api.OK)
		return append(l, l[i])
	default:
		if !there {
			wantNone(t, p, i, api.ErrArg)
			return l
		}
		wantTake(t, p, i, l[i])
		return slices.Delete(l, i, i+1)
	}
}

func TestP8_2LikeTheModel(t *testing.T) {
	d := dice(8)
	for round := range 100 {
		room := d.below(9)
		p := make1(t, room)
		var l []mail
		for range 200 {
			l = step(t, &d, p, room, l)
			wantAll(t, p, l...)
			if t.Failed() {
				t.Fatalf("in round %d", round)
			}
		}
	}
}

func TestR1NilPost(t *testing.T) {
	var p *post.Post
	want(t, "Send by a nil post", p.Send(msg(1, 2, "a")), api.ErrNil)
	for _, i := range []int{0, 1, -1, math.MaxInt, math.MinInt} {
		wantNone(t, p, i, api.ErrNil)
	}
	if p.Len() != 0 || len(p.All()) != 0 {
		t.Errorf("a nil post has %d, %v", p.Len(), p.All())
	}
}

// TestR1OtherPosts: of a post that New didn't make nothing is promised but
// that each call on it ends, and none panics.
func TestR1OtherPosts(t *testing.T) {
	made := make1(t, 2)
	ok(t, made.Send(msg(1, 2, "a")), made.Send(msg(1, 2, "b")))
	again, third := *made, *made
	for _, p := range []*post.Post{{}, made, &again, &third, new(post.Post)} {
		for range 3 {
			for _, i := range []int{0, 1, -1, math.MaxInt, math.MinInt} {
				p.Send(msg(1, 2, "a"))
				p.Len()
				p.Look(i)
				p.Copy(i)
				p.All()
				p.Take(i)
				p.Take(0)
			}
		}
	}
}

func TestR3NothingHandedInIsChangedOrKept(t *testing.T) {
	p := make1(t, 3)
	room := []byte("abcdef")
	m := post.Msg{From: 1, To: 2, Body: room[:2]}
	ok(t, p.Send(m), p.Copy(0))
	room[0] = 'X'
	wantAll(t, p, mail{1, 2, "ab"}, mail{1, 2, "ab"})
	wantTake(t, p, 0, mail{1, 2, "ab"})
	if string(room) != "Xbcdef" || string(m.Body) != "Xb" || m.From != 1 || m.To != 2 {
		t.Errorf("what was handed in is %q now", room)
	}
}

// spoil writes over a message's bytes, and over the room behind them.
func spoil(m post.Msg) {
	b := m.Body[:cap(m.Body)]
	for i := range b {
		b[i] = '!'
	}
}

func TestR3WhatIsHandedOutIsNewMemory(t *testing.T) {
	p := make1(t, 4)
	a := mail{1, 2, "abcde"}
	ok(t, p.Send(a.msg()), p.Copy(0), p.Copy(1))
	m, _ := p.Look(0)
	n, _ := p.Look(0)
	spoil(m)
	if mailOf(n) != a {
		t.Errorf("another answer is %v now", mailOf(n))
	}
	wantAll(t, p, a, a, a)
	all := p.All()
	spoil(all[1])
	if mailOf(all[0]) != a || mailOf(all[2]) != a {
		t.Errorf("one list's messages share memory: %v", all)
	}
	all[0] = post.Msg{}
	all = append(all[:1], all...)
	wantAll(t, p, a, a, a)
	m, _ = p.Take(1)
	spoil(m)
	wantAll(t, p, a, a)
}

func TestR4NilAndEmptyBodiesAreOne(t *testing.T) {
	p := make1(t, 3)
	ok(t, p.Send(post.Msg{From: 1}), p.Send(post.Msg{From: 2, Body: []byte{}}), p.Copy(1))
	wantAll(t, p, mail{1, 0, ""}, mail{2, 0, ""}, mail{2, 0, ""})
	wantTake(t, p, 1, mail{2, 0, ""})
}

func TestR5PostsAreApart(t *testing.T) {
	p, q := make1(t, 1), make1(t, 1)
	ok(t, p.Send(msg(1, 2, "a")), q.Send(msg(3, 4, "b")))
	wantTake(t, p, 0, mail{1, 2, "a"})
	want(t, "Send without room", q.Send(msg(5, 6, "c")), api.ErrFull)
	wantAll(t, p)
	wantAll(t, q, mail{3, 4, "b"})
}
