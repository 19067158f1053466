package relay_test

import (
	"fmt"
	"slices"
	"testing"

	"slackwater/api"
	"slackwater/relay"
	"slackwater/view"
)

// A model of one relay, by the document's words, and random calls of all kinds
// by which a relay is held against it.

// model has an ack of -1 of who has none.
type model struct {
	id, joined, sure int
	v                view.View
	log              []relay.Entry
	acks             [maxNodes]int
	active           bool
}

func (m *model) leads() bool { return m.v.Epoch != 0 && m.v.Primary == m.id }

func (m *model) settle() {
	least := len(m.log)
	for _, n := range m.v.Members {
		least = min(least, m.acks[n])
	}
	if m.leads() && least >= 0 {
		m.active, m.sure = true, max(m.sure, least)
	}
}

func (m *model) forget() {
	m.active = false
	for n := range m.acks {
		m.acks[n] = -1
	}
	if m.leads() {
		m.acks[m.id] = len(m.log)
	}
	m.settle()
}

func (m *model) promise(v view.View) []byte {
	m.v = v
	if m.leads() {
		m.joined = v.Epoch
	}
	m.forget()
	return recPromise(v)
}

func (m *model) hear(from int, msg relay.Msg) []relay.Out {
	m.sure = max(m.sure, min(msg.Sure, len(m.log)))
	return outs(out(from, ack(m.v.Epoch, len(m.log))))
}

func (m *model) take(from int, msg relay.Msg) (recs [][]byte, answers []relay.Out) {
	toOwn := from == m.id
	switch msg.Kind {
	case 1:
		v := msg.View
		fits := view.Right(v) && v.Epoch == msg.Epoch && v.Primary == from && !toOwn && slices.Contains(v.Members, m.id)
		if !fits || msg.Epoch < m.v.Epoch || msg.Epoch == m.v.Epoch && m.v.Primary != v.Primary {
			return nil, nil
		}
		if msg.Epoch > m.v.Epoch {
			recs = append(recs, m.promise(v))
		}
		if m.joined != msg.Epoch || len(msg.Log) >= len(m.log) {
			m.joined, m.log = msg.Epoch, msg.Log
			recs = append(recs, recList(m.joined, m.log...))
		}
		return recs, m.hear(from, msg)
	case 2:
		if msg.Epoch != m.v.Epoch || msg.Epoch != m.joined || from != m.v.Primary || toOwn {
			return nil, nil
		}
		if len(msg.Log) == 1 && msg.Index == len(m.log)+1 {
			m.log = append(slices.Clip(m.log), msg.Log[0])
			recs = append(recs, recEntry(msg.Index, msg.Log[0].Epoch, string(msg.Log[0].Cmd)))
		}
		return recs, m.hear(from, msg)
	case 3:
		if m.leads() && msg.Epoch == m.v.Epoch && !toOwn && slices.Contains(m.v.Members, from) && msg.Index >= 0 && msg.Index <= len(m.log) {
			m.acks[from] = max(m.acks[from], msg.Index)
			m.settle()
		}
	}
	return nil, nil
}

func (m *model) propose(cmd string) (at int, recs [][]byte, ships []relay.Out, e api.Errno) {
	if !m.leads() || !m.active {
		return 0, nil, nil, api.ErrState
	}
	m.log = append(slices.Clip(m.log), of(m.v.Epoch, cmd)...)
	at = len(m.log)
	m.acks[m.id] = at
	m.settle()
	for _, n := range m.v.Members {
		if n != m.id {
			ships = append(ships, out(n, ship(m.v.Epoch, at, m.sure, of(m.v.Epoch, cmd))))
		}
	}
	return at, [][]byte{recEntry(at, m.v.Epoch, cmd)}, ships, api.OK
}

func (m *model) tick() (l []relay.Out) {
	for _, n := range m.v.Members {
		switch k := m.acks[n]; {
		case !m.leads(), n == m.id:
		case k < 0:
			l = append(l, out(n, offer(m.v, m.sure, m.log)))
		case k == len(m.log):
			l = append(l, out(n, ship(m.v.Epoch, k, m.sure, nil)))
		default:
			for i := k; i < len(m.log) && i < k+maxShips; i++ {
				l = append(l, out(n, ship(m.v.Epoch, i+1, m.sure, m.log[i:i+1])))
			}
		}
	}
	return l
}

func (m *model) save() (recs [][]byte) {
	if m.v.Epoch != 0 {
		recs = append(recs, recPromise(m.v))
	}
	if len(m.log) != 0 || m.joined != 0 {
		recs = append(recs, recList(m.joined, m.log...))
	}
	return recs
}

func (m *model) tell() string {
	return fmt.Sprintf("%+v %t %d %+v %d %x %+v", m.v, m.active, m.sure, m.log, len(m.log), m.save(), m.tick())
}

// entries are some entries, as many as there may well be.
func (d *dice) entries(most int) []relay.Entry {
	var l []relay.Entry
	for range d.below(most + 1) {
		l = append(l, of(d.below(4), fmt.Sprint(d.below(10)))...)
	}
	return l
}

// near is a number near another one, mostly that one.
func (d *dice) near(n int) int {
	if d.in(3) {
		return n - 2 + d.below(5)
	}
	return n
}

// someView is a view of four nodes near an epoch, mostly a right one.
func (d *dice) someView(epoch int) view.View {
	v := view.View{Epoch: d.near(epoch), Primary: d.below(4)}
	for n := range 4 {
		if n == v.Primary && !d.in(9) || n != v.Primary && d.in(2) {
			v.Members = append(v.Members, n)
		}
	}
	return v
}

// message is one that a relay of a view and a log may well take.
func (d *dice) message(v view.View, log int) (from int, m relay.Msg) {
	kinds := []int{0, 1, 2, 2, 3, 3, 3, 4}
	m = relay.Msg{Kind: kinds[d.below(len(kinds))], Epoch: v.Epoch, View: v, Index: d.near(log), Sure: d.near(log), Log: d.entries(3)}
	if d.in(2) {
		m.View = d.someView(v.Epoch)
		m.Epoch = d.near(m.View.Epoch)
	}
	if m.Kind == 2 {
		m.Index = d.near(log + 1)
		m.Log = d.entries(2)
	}
	from = m.View.Primary
	if d.in(3) || m.Kind == 3 {
		from = d.below(5)
	}
	return from, m
}

// walk does a random call with a relay and the model.
func walk(t *testing.T, d *dice, r *relay.Relay, m *model) {
	t.Helper()
	switch d.below(12) {
	case 0:
		v := d.someView(m.v.Epoch + 1)
		var want [][]byte
		e := api.OK
		if !view.Right(v) {
			e = api.ErrArg
		} else if v.Epoch > m.v.Epoch {
			want = [][]byte{m.promise(v)}
		}
		if recs, got := r.Lead(v); got != e || !sameRecs(recs, want...) {
			t.Fatalf("Lead(%v): %x, error %d, want %x, error %d", v, recs, got, want, e)
		}
	case 1, 2, 3:
		cmd := fmt.Sprint(d.below(100))
		at, recs, ships, e := m.propose(cmd)
		gotAt, gotRecs, got, gotE := r.Propose([]byte(cmd))
		if gotAt != at || gotE != e || !sameRecs(gotRecs, recs...) || !sameMsgs(got, ships) {
			t.Fatalf("Propose(%s): %d, %x, %v, error %d, want %d, %x, %v, error %d", cmd, gotAt, gotRecs, got, gotE, at, recs, ships, e)
		}
	default:
		from, msg := d.message(m.v, len(m.log))
		recs, answers := m.take(from, msg)
		take(t, r, from, msg, answers, recs...)
	}
}

func TestP16_1To3RandomCalls(t *testing.T) {
	active, follows := 0, 0
	for seed := range 400 {
		d := dice(seed)
		id := d.below(4)
		r, m := make1(t, id), &model{id: id}
		m.forget()
		for range 150 {
			walk(t, &d, r, m)
			if d.in(20) {
				again, e := relay.Load(id, r.Save())
				if e != api.OK {
					t.Fatalf("Load: error %d", e)
				}
				r, m.sure = again, 0
				m.forget()
			}
			if is, want := tell(r), m.tell(); is != want {
				t.Fatalf("the relay %d is %s, want %s", id, is, want)
			}
			switch {
			case m.active && len(m.v.Members) > 1 && m.sure > 0:
				active++
			case !m.leads() && m.sure > 0:
				follows++
			}
		}
	}
	// What never happens isn't held.
	if active < 500 || follows < 1000 {
		t.Errorf("active with others %d times, with sure entries of another one %d times", active, follows)
	}
}
