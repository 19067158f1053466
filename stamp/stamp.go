// Package stamp is layer 1: points in one order of all that is ever
// committed. See shared/doc/01-stamp.md.
package stamp

import (
	"strconv"
	"strings"

	"slackwater/api"
)

// size is how many bytes a stamp's Put has.
const size = 16

// parts are a stamp's Wall, Tick and Mark, in the order in which they weigh,
// so that one loop does for what holds of each of them.
type parts [3]int64

// widths: how many bytes each part has.
var widths = [3]int{8, 4, 4}

func partsOf(s api.Stamp) parts {
	return parts{s.Wall, int64(s.Tick), int64(s.Mark)}
}

func (p parts) stamp() api.Stamp {
	return api.Stamp{Wall: p[0], Tick: uint32(p[1]), Mark: uint32(p[2])}
}

// Right says whether a stamp is right: its Wall is from 0 to MaxWall.
func Right(s api.Stamp) bool {
	return s.Wall >= 0 && s.Wall <= api.MaxWall
}

// Compare is -1, 0 or 1, as a stands ahead of b, is b, or stands behind it.
func Compare(a, b api.Stamp) int {
	q := partsOf(b)
	for i, n := range partsOf(a) {
		if n < q[i] {
			return -1
		}
		if n > q[i] {
			return 1
		}
	}
	return 0
}

// Next is the least right stamp with the Mark 0 behind all that have the Wall
// and the Tick of s.
func Next(s api.Stamp) (api.Stamp, api.Errno) {
	switch {
	case !Right(s):
		return api.Stamp{}, api.ErrArg
	case s.Tick < api.MaxTick:
		return api.Stamp{Wall: s.Wall, Tick: s.Tick + 1}, api.OK
	case s.Wall < api.MaxWall:
		return api.Stamp{Wall: s.Wall + 1}, api.OK
	}
	return api.Stamp{}, api.ErrOver
}

// Last is s with the greatest Mark.
func Last(s api.Stamp) api.Stamp {
	s.Mark = api.MaxTick
	return s
}

// Put is a stamp as 16 bytes; those of right stamps stand in the stamps'
// order.
func Put(s api.Stamp) []byte {
	b := make([]byte, 0, size)
	for i, n := range partsOf(s) {
		for shift := 8 * (widths[i] - 1); shift >= 0; shift -= 8 {
			b = append(b, byte(n>>shift))
		}
	}
	return b
}

// Get is the right stamp whose Put b is.
func Get(b []byte) (api.Stamp, api.Errno) {
	if len(b) != size {
		return api.Stamp{}, api.ErrShort
	}
	var p parts
	at := 0
	for i, width := range widths {
		for range width {
			p[i] = p[i]<<8 | int64(b[at])
			at++
		}
	}
	s := p.stamp()
	if !Right(s) {
		return api.Stamp{}, api.ErrForm
	}
	return s, api.OK
}

// Text is a stamp's parts in decimal, with points between.
func Text(s api.Stamp) string {
	var t [3]string
	for i, n := range partsOf(s) {
		t[i] = strconv.FormatInt(n, 10)
	}
	return strings.Join(t[:], ".")
}

// Parse is the right stamp whose Text t is.
func Parse(t string) (api.Stamp, api.Errno) {
	var p parts
	words := strings.SplitN(t, ".", len(p)+1)
	if len(words) != len(p) {
		return api.Stamp{}, api.ErrForm
	}
	for i, word := range words {
		n, err := strconv.ParseInt(word, 10, 64)
		if err != nil {
			return api.Stamp{}, api.ErrForm
		}
		p[i] = n
	}
	s := p.stamp()
	// A number has many spellings (05, +5), and one that is too great for its
	// part loses its upper bits: neither is what Text tells.
	if !Right(s) || Text(s) != t {
		return api.Stamp{}, api.ErrForm
	}
	return s, api.OK
}
