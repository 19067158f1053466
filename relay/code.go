package relay

import (
	"slackwater/api"
	"slackwater/view"
	"slackwater/wire"
)

// What a record tells, which is its first number.
const (
	wasPromised = 1 + iota
	wasEntered
	wasJoined
)

// promiseRecord tells that a view is promised.
func promiseRecord(v view.View) []byte {
	w := wire.New()
	w.Num(wasPromised)
	view.Put(w, v)
	return w.Bytes()
}

// entryRecord tells that an entry stands at a place.
func entryRecord(at int, x Entry) []byte {
	w := wire.New()
	w.Num(wasEntered)
	w.Int(int64(at))
	putList(w, []Entry{x})
	return w.Bytes()
}

// listRecord tells the joined epoch and the log.
func listRecord(joined int, l []Entry) []byte {
	w := wire.New()
	w.Num(wasJoined)
	w.Int(int64(joined))
	putList(w, l)
	return w.Bytes()
}

// putList lays a list of entries behind what a writer laid.
func putList(w *wire.Writer, l []Entry) {
	w.Num(uint64(len(l)))
	for _, x := range l {
		w.Int(int64(x.Epoch))
		w.Text(string(x.Cmd))
	}
}

// getList takes a list of entries off a reader.
func getList(r *wire.Reader) []Entry {
	var l []Entry
	for range r.Count(api.MaxLog) {
		l = append(l, Entry{Epoch: int(r.Int()), Cmd: []byte(r.Text(MaxCmd))})
	}
	return l
}

// Load is a log as its records tell it.
func Load(id int, recs [][]byte) (*Relay, api.Errno) {
	r, e := New(id)
	if e != api.OK {
		return nil, e
	}
	for _, b := range recs {
		if !r.redo(b) {
			return nil, api.ErrBroken
		}
	}
	// What was committed is told again by the members' acks, or the primary.
	r.sure = 0
	r.begin()
	return r, api.OK
}

// redo does what a record tells, if it may stand behind the ones ahead of it.
func (r *Relay) redo(rec []byte) bool {
	in := wire.Read(rec)
	switch in.Num() {
	case wasPromised:
		return r.redoPromise(in)
	case wasEntered:
		return r.redoEntry(in)
	case wasJoined:
		return r.redoList(in)
	}
	return false
}

func (r *Relay) redoPromise(in *wire.Reader) bool {
	v := view.Get(in)
	if in.End() != api.OK || !view.Right(v) || v.Epoch <= r.view.Epoch {
		return false
	}
	r.promise(v)
	return true
}

func (r *Relay) redoEntry(in *wire.Reader) bool {
	at := int(in.Int())
	l := getList(in)
	if in.End() != api.OK || len(l) != 1 || at != len(r.log)+1 || at > api.MaxLog {
		return false
	}
	r.log = append(r.log, l[0])
	return true
}

func (r *Relay) redoList(in *wire.Reader) bool {
	joined := int(in.Int())
	l := getList(in)
	if in.End() != api.OK || joined < 0 || joined > r.view.Epoch {
		return false
	}
	r.joined, r.log = joined, l
	return true
}

// Save are records that tell a log as it is.
func (r *Relay) Save() [][]byte {
	if r == nil {
		return nil
	}
	var recs [][]byte
	if r.view.Epoch > 0 {
		recs = append(recs, promiseRecord(r.view))
	}
	if len(r.log) > 0 || r.joined != 0 {
		recs = append(recs, listRecord(r.joined, r.log))
	}
	return recs
}

// Encode is a message as bytes.
func Encode(m Msg) []byte {
	w := wire.New()
	w.Int(int64(m.Kind))
	w.Int(int64(m.Epoch))
	view.Put(w, m.View)
	w.Int(int64(m.Index))
	w.Int(int64(m.Sure))
	putList(w, m.Log)
	return w.Bytes()
}

// Decode is the message that bytes are.
func Decode(b []byte) (Msg, api.Errno) {
	r := wire.Read(b)
	m := Msg{Kind: int(r.Int()), Epoch: int(r.Int()), View: view.Get(r), Index: int(r.Int()), Sure: int(r.Int()), Log: getList(r)}
	if e := r.End(); e != api.OK {
		return Msg{}, e
	}
	return m, api.OK
}
