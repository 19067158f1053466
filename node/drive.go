package node

import (
	"maps"
	"slices"

	"slackwater/api"
	"slackwater/cell"
	"slackwater/stamp"
)

// fate is what a node knows of a batch that it drives, but for what stands in
// the book.
type fate struct {
	times    int                // how often it was driven while it was open
	votes    map[int]cell.Reply // by shards: how their parts stand
	answered map[int]struct{}   // the shards that have resolved their parts
	over     bool               // all of them have
}

// fate is what is known of a deed; it is kept from now on.
func (n *Node) fate(deed uint32) *fate {
	f := n.fates[deed]
	if f == nil {
		f = &fate{votes: map[int]cell.Reply{}, answered: map[int]struct{}{}}
		n.fates[deed] = f
	}
	return f
}

// note notes what a shard answers to a call.
func (n *Node) note(s int, m cell.Cmd, r cell.Reply) {
	switch m.Kind {
	case cell.Prepare:
		f := n.fate(m.Deed)
		if _, ok := f.votes[s]; !ok {
			f.votes[s] = r
		}
	case cell.Resolve:
		n.fate(m.Deed).answered[s] = struct{}{}
	}
}

// drive brings each batch of a shard's book nearer to its end.
func (n *Node) drive(s *shard, at api.Stamp) {
	for _, it := range s.cell.Book() {
		f := n.fate(it.Deed)
		if f.over {
			continue
		}
		parts := Split(it.Writes, n.conf.Shards)
		if it.State == cell.Open {
			f.times++
			n.gather(it.Deed, parts, at)
			it = n.judge(s, it, slices.Sorted(maps.Keys(parts)))
		}
		if it.State != cell.Open {
			n.resolve(it, slices.Sorted(maps.Keys(parts)))
		}
	}
}

// callPrimary calls whoever leads a shard, as far as this node knows.
func (n *Node) callPrimary(to int, m cell.Cmd) {
	s := n.shards[to]
	v := s.relay.View()
	switch {
	case v.Epoch == 0:
	case v.Primary == n.id:
		if r, ok := n.call(s, m); ok {
			n.note(to, m, r)
		}
	default:
		n.send(v.Primary, Letter{Kind: Call, Shard: to, Cmd: m})
	}
}

// gather asks for the votes that lack.
func (n *Node) gather(deed uint32, parts map[int][]api.Write, at api.Stamp) {
	votes := n.fate(deed).votes
	for _, p := range slices.Sorted(maps.Keys(parts)) {
		if _, ok := votes[p]; !ok {
			n.callPrimary(p, cell.Cmd{Kind: cell.Prepare, Deed: deed, At: at, Writes: parts[p]})
		}
	}
}

// judge decides an open batch, if its votes, or their lack, tell enough; the
// batch as it stands then.
func (n *Node) judge(s *shard, it cell.Item, parts []int) cell.Item {
	m := cell.Cmd{Kind: cell.Decide, Deed: it.Deed}
	f := n.fate(it.Deed)
	latest, there, isRefused := f.count(parts)
	switch {
	case isRefused, there < len(parts) && f.times > n.conf.Patience:
	case there == len(parts):
		m.Yes, m.At = true, latest
	default:
		return it
	}
	n.propose(s, m)
	// It may be decided at once. Of a token that is known a cell only tells.
	r := s.cell.Do(cell.Cmd{Kind: cell.Begin, Token: it.Token, Writes: it.Writes})
	it.State, it.At = r.State, r.At
	return it
}

// count tells the greatest stamp of a batch's votes, how many there are, and
// whether a part isn't held.
func (f *fate) count(parts []int) (latest api.Stamp, there int, isRefused bool) {
	for _, p := range parts {
		v, ok := f.votes[p]
		if !ok {
			continue
		}
		there++
		if v.Err != api.OK || v.State != cell.Open {
			isRefused = true
		}
		if stamp.Compare(v.At, latest) > 0 {
			latest = v.At
		}
	}
	return latest, there, isRefused
}

// resolve tells the shards of a decided batch what became of it, as long as
// they don't answer.
func (n *Node) resolve(it cell.Item, parts []int) {
	m := cell.Cmd{Kind: cell.Resolve, Deed: it.Deed, Yes: it.State == cell.Done, At: it.At}
	f := n.fate(it.Deed)
	f.over = true
	for _, p := range parts {
		if _, ok := f.answered[p]; !ok {
			n.callPrimary(p, m)
		}
		if _, ok := f.answered[p]; !ok {
			f.over = false
		}
	}
}
