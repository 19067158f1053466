package cell

import (
	"math"

	"slackwater/api"
	"slackwater/wire"
)

// Encode is a command as bytes.
func Encode(m Cmd) []byte {
	w := wire.New()
	w.Int(int64(m.Kind))
	w.Num(uint64(m.Deed))
	w.Stamp(m.At)
	w.Flag(m.Yes)
	w.Text(m.Token)
	w.Int(m.N)
	w.Int(int64(m.Id))
	w.Num(uint64(len(m.Writes)))
	for _, one := range m.Writes {
		layWrite(w, one)
	}
	return w.Bytes()
}

func layWrite(w *wire.Writer, one api.Write) {
	w.Num(uint64(len(one.Set)))
	for _, p := range one.Set {
		w.Text(p.Name)
		w.Text(p.Value)
	}
	w.Int(one.Time)
	w.Int(int64(one.Kind))
	w.Int(one.Num)
	w.Text(one.Text)
}

// Decode is the command that bytes are.
func Decode(b []byte) (Cmd, api.Errno) {
	if len(b) > api.MaxBody {
		return Cmd{}, api.ErrLimit
	}
	r := wire.Read(b)
	var m Cmd
	m.Kind = int(r.Int())
	// What the bytes are goes ahead of how great the deed is.
	deed := r.Num()
	m.Deed = uint32(deed)
	m.At = r.Stamp()
	m.Yes = r.Flag()
	m.Token = r.Text(api.MaxText)
	m.N = r.Int()
	m.Id = int(r.Int())
	for range r.Count(api.MaxWrites) {
		m.Writes = append(m.Writes, takeWrite(r))
	}
	if e := r.End(); e != api.OK {
		return Cmd{}, e
	}
	if deed > math.MaxUint32 {
		return Cmd{}, api.ErrLimit
	}
	return m, api.OK
}

func takeWrite(r *wire.Reader) api.Write {
	var w api.Write
	for range r.Count(api.MaxPairs) {
		name := r.Text(api.MaxText)
		value := r.Text(api.MaxText)
		w.Set = append(w.Set, api.Pair{Name: name, Value: value})
	}
	w.Time = r.Int()
	w.Kind = int(r.Int())
	w.Num = r.Int()
	w.Text = r.Text(api.MaxText)
	return w
}
