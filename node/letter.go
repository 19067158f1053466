package node

import (
	"math"

	"slackwater/api"
	"slackwater/cell"
	"slackwater/relay"
	"slackwater/view"
	"slackwater/wire"
)

// What a letter holds.
const (
	Chat = 1 + iota
	Lead
	Active
	Call
	Answer
)

// Letter is what stands in a message's body.
type Letter struct {
	Kind  int
	Shard int
	Chat  relay.Msg
	View  view.View
	Epoch int
	Cmd   cell.Cmd
	Reply cell.Reply
}

// Seal is a letter as bytes.
func Seal(l Letter) []byte {
	w := wire.New()
	w.Int(int64(l.Kind))
	w.Int(int64(l.Shard))
	switch l.Kind {
	case Chat:
		w.Text(string(relay.Encode(l.Chat)))
	case Lead:
		view.Put(w, l.View)
	case Active:
		w.Int(int64(l.Epoch))
	case Call:
		w.Text(string(cell.Encode(l.Cmd)))
	case Answer:
		w.Text(string(cell.Encode(l.Cmd)))
		putReply(w, l.Reply)
	}
	return w.Bytes()
}

func putReply(w *wire.Writer, r cell.Reply) {
	w.Int(int64(r.Err))
	w.Num(uint64(r.Deed))
	w.Int(int64(r.State))
	w.Stamp(r.At)
}

// Open is the letter that bytes are.
func Open(b []byte) (Letter, api.Errno) {
	r := wire.Read(b)
	l := Letter{Kind: int(r.Int()), Shard: int(r.Int())}
	isRight := true
	switch l.Kind {
	case Chat:
		m, e := relay.Decode(text(r, b))
		l.Chat, isRight = m, e == api.OK
	case Lead:
		l.View = view.Get(r)
	case Active:
		l.Epoch = int(r.Int())
	case Call:
		l.Cmd, isRight = command(text(r, b))
	case Answer:
		l.Cmd, isRight = command(text(r, b))
		var isReply bool
		l.Reply, isReply = getReply(r)
		isRight = isRight && isReply
	default:
		isRight = false
	}
	if !isRight || r.End() != api.OK {
		return Letter{}, api.ErrForm
	}
	return l, api.OK
}

// text takes a text off a reader of b. No limit is laid on it here: whose text
// it is says how long it may be.
func text(r *wire.Reader, b []byte) []byte {
	return []byte(r.Text(len(b)))
}

// command is the command that bytes are, and whether they are one.
func command(b []byte) (cell.Cmd, bool) {
	m, e := cell.Decode(b)
	return m, e == api.OK
}

// getReply takes a reply off a reader, and says whether its deed may be one.
func getReply(r *wire.Reader) (cell.Reply, bool) {
	e := api.Errno(r.Int())
	deed := r.Num()
	state := int(r.Int())
	return cell.Reply{Err: e, Deed: uint32(deed), State: state, At: r.Stamp()}, deed <= math.MaxUint32
}
