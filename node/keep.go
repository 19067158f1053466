package node

import (
	"slackwater/api"
	"slackwater/wal"
	"slackwater/wire"
)

// What a record tells, which is its first number.
const (
	ofRelay = 201 + iota
	ofBound
	ofBase
)

// leastGrowth is how many bytes of records a base is at least put in the place
// of.
const leastGrowth = 1 << 14

// keeper lets records last, until that fails.
type keeper struct {
	log   *wal.Wal
	dead  api.Errno
	grown int // the bytes of the records behind the base
	limit int // from how many on a base is put in their place
}

// keeperOf is a keeper of a log in which these stand.
func keeperOf(w *wal.Wal, base []byte, recs [][]byte) keeper {
	k := keeper{log: w, limit: leastGrowth + len(base)}
	for _, b := range recs {
		k.grown += len(b)
	}
	return k
}

// keep lets a record last. Behind one that didn't nothing is written: a log
// with a gap is none.
func (k *keeper) keep(rec []byte) {
	if k.dead != api.OK {
		return
	}
	k.dead = k.log.Append(rec)
	if k.dead == api.OK {
		k.dead = k.log.Sync()
	}
	k.grown += len(rec)
}

// tidy puts a base in the place of the records, if these are many: logs that
// are offered again and again would fill the disk. It is called where all that
// stands in the relays lasts.
func (n *Node) tidy() {
	k := &n.disk
	if k.dead != api.OK || k.grown <= k.limit {
		return
	}
	b := n.base()
	e := api.ErrFull
	if len(b) <= api.MaxPayload {
		e = k.log.Rebase(b)
	}
	switch e {
	case api.OK:
		k.grown, k.limit = 0, leastGrowth+len(b)
	case api.ErrFull, api.ErrArg:
		// There is no place for it, and nothing has changed: the records stay.
		k.limit = 2 * k.grown
	default:
		k.dead = e
	}
}

// base is records, fewer than there were, that tell a node as it is.
func (n *Node) base() []byte {
	var recs [][]byte
	if upper := n.clock.Upper(); upper > 0 {
		recs = append(recs, boundRecord(upper))
	}
	for _, s := range n.shards {
		for _, b := range s.relay.Save() {
			recs = append(recs, relayRecord(s.id, b))
		}
	}
	w := wire.New()
	w.Num(ofBase)
	w.Num(uint64(len(recs)))
	for _, b := range recs {
		w.Text(string(b))
	}
	return w.Bytes()
}

// relayRecord is a record of a shard's relay.
func relayRecord(shard int, rec []byte) []byte {
	w := wire.New()
	w.Num(ofRelay)
	w.Num(uint64(shard))
	w.Text(string(rec))
	return w.Bytes()
}

// boundRecord tells the clock's bound.
func boundRecord(upper int64) []byte {
	w := wire.New()
	w.Num(ofBound)
	w.Int(upper)
	return w.Bytes()
}

// memory is what a node's records tell: the clock's bound, and the records of
// the relays, by shards.
type memory struct {
	upper  int64
	relays [][][]byte
}

// redoAll takes up a base and the records behind it, and says whether a node
// wrote them. An empty base is that of a disk on which no node wrote one.
func (m *memory) redoAll(base []byte, recs [][]byte) bool {
	if len(base) > 0 && !m.redoBase(base) {
		return false
	}
	for _, b := range recs {
		if !m.redo(b) {
			return false
		}
	}
	return true
}

func (m *memory) redoBase(base []byte) bool {
	r := wire.Read(base)
	if r.Num() != ofBase {
		return false
	}
	for range r.Count(len(base)) {
		if !m.redo([]byte(r.Text(len(base)))) {
			return false
		}
	}
	return r.End() == api.OK
}

func (m *memory) redo(rec []byte) bool {
	r := wire.Read(rec)
	switch r.Num() {
	case ofRelay:
		return m.redoRelay(r)
	case ofBound:
		return m.redoBound(r)
	}
	return false
}

func (m *memory) redoRelay(r *wire.Reader) bool {
	s := r.Count(len(m.relays) - 1)
	b := []byte(r.Text(api.MaxPayload))
	if r.End() != api.OK {
		return false
	}
	m.relays[s] = append(m.relays[s], b)
	return true
}

func (m *memory) redoBound(r *wire.Reader) bool {
	upper := r.Int()
	if r.End() != api.OK || upper <= m.upper || upper > api.MaxWall {
		return false
	}
	m.upper = upper
	return true
}
