package node

import (
	"slices"

	"slackwater/api"
	"slackwater/cell"
	"slackwater/relay"
)

// likeness is what two commands share of which one is enough in a log, as long
// as it isn't applied.
type likeness struct {
	kind int
	deed uint32
	text string
}

// shard is a node's part of a shard.
type shard struct {
	id      int
	relay   *relay.Relay
	cell    *cell.Cell
	applied int
	// refused: by deeds, why a part of a batch isn't held.
	refused map[uint32]api.Errno
	// waiting counts the commands of the log that aren't applied; nil, as long
	// as nobody asks for them.
	waiting map[likeness]int
}

// loadShard is a shard as its relay's records tell it.
func loadShard(node, id int, recs [][]byte) (*shard, api.Errno) {
	r, e := relay.Load(node, recs)
	if e != api.OK {
		return nil, e
	}
	c, e := cell.New(id)
	if e != api.OK {
		return nil, e
	}
	s := &shard{id: id, relay: r, cell: c, refused: map[uint32]api.Errno{}}
	s.apply()
	return s, api.OK
}

// likenessOf is that of a command with these bytes.
func likenessOf(m cell.Cmd, b []byte) likeness {
	switch m.Kind {
	case cell.Begin:
		return likeness{kind: m.Kind, text: m.Token}
	case cell.Decide, cell.Prepare, cell.Resolve:
		return likeness{kind: m.Kind, deed: m.Deed}
	}
	return likeness{kind: m.Kind, text: string(b)}
}

// apply does what is sure and wasn't done so far.
func (s *shard) apply() {
	for s.applied < s.relay.Sure() {
		x, ok := s.relay.Entry(s.applied)
		if !ok {
			return
		}
		s.applied++
		// Of other bytes nothing is done, at any node.
		if m, e := cell.Decode(x.Cmd); e == api.OK {
			s.do(m)
			s.leave(likenessOf(m, x.Cmd))
		}
	}
}

// do does a command, and notes why a part is refused.
func (s *shard) do(m cell.Cmd) {
	r := s.cell.Do(m)
	if m.Kind == cell.Prepare && r.Err != api.OK {
		s.refused[m.Deed] = r.Err
	}
}

// leave counts a command as applied.
func (s *shard) leave(k likeness) {
	if s.waiting[k] > 1 {
		s.waiting[k]--
	} else {
		delete(s.waiting, k)
	}
}

// isWaiting says whether a like command stands in the log, and isn't applied.
func (s *shard) isWaiting(k likeness) bool {
	if s.waiting == nil {
		s.waiting = map[likeness]int{}
		for i := s.applied; i < s.relay.Len(); i++ {
			x, _ := s.relay.Entry(i)
			if m, e := cell.Decode(x.Cmd); e == api.OK {
				s.waiting[likenessOf(m, x.Cmd)]++
			}
		}
	}
	return s.waiting[k] > 0
}

// propose enters a command in a shard's log, if no like one waits there. Where
// that can't be, nothing is told: whoever needs it asks once more.
func (n *Node) propose(s *shard, m cell.Cmd) {
	b := cell.Encode(m)
	k := likenessOf(m, b)
	if s.isWaiting(k) {
		return
	}
	_, recs, outs, e := s.relay.Propose(b)
	if e != api.OK {
		return
	}
	s.waiting[k]++
	n.follow(s, recs, outs)
}

// call is what is answered to a call of a command, and whether anything is.
func (n *Node) call(s *shard, m cell.Cmd) (cell.Reply, bool) {
	if !s.relay.Active() {
		return cell.Reply{}, false
	}
	stands, known := s.cell.Deed(m.Deed)
	switch m.Kind {
	case cell.Begin:
		if r, ok := s.begun(m); ok {
			return r, true
		}
	case cell.Prepare:
		if known {
			return stands, true
		}
		if e, ok := s.refused[m.Deed]; ok {
			return cell.Reply{Err: e, Deed: m.Deed}, true
		}
	case cell.Resolve:
		if known && stands.State != cell.Open {
			return stands, true
		}
		if !known && m.Yes {
			return cell.Reply{}, false
		}
	case cell.Cut, cell.Retain, cell.Pin:
	default:
		return cell.Reply{}, false
	}
	n.propose(s, m)
	return cell.Reply{}, false
}

// begun is what is answered to a Begin that needn't be entered, and whether it
// is such a one.
func (s *shard) begun(m cell.Cmd) (cell.Reply, bool) {
	if !cell.IsToken(m.Token) || !cell.RightBatch(m.Writes) {
		return cell.Reply{Err: api.ErrArg}, true
	}
	book := s.cell.Book()
	switch {
	case slices.ContainsFunc(book, func(it cell.Item) bool { return it.Token == m.Token }):
		// Of a token that is known a cell only tells.
		return s.cell.Do(m), true
	case len(book) >= api.MaxDeeds:
		return cell.Reply{Err: api.ErrFull}, true
	}
	return cell.Reply{}, false
}
