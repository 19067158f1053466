// Package clock is layer 2: a hybrid logical clock. Its stamps rise, near the
// readings of a physical clock, whatever these are, and go on rising behind a
// restart. See shared/doc/02-clock.md.
package clock

import (
	"slackwater/api"
	"slackwater/stamp"
)

// Clock gives stamps that rise.
type Clock struct {
	offset int64
	upper  int64
	mark   uint32
	last   api.Stamp // its Mark is 0
}

// New is a clock behind an upper bound that lasted.
func New(offset, upper int64, mark uint32) (*Clock, api.Errno) {
	switch {
	case offset < 0, offset > api.MaxOffset:
		return nil, api.ErrArg
	case upper < 0, upper > api.MaxWall:
		return nil, api.ErrArg
	}
	// An earlier clock may have given any stamp up to the bound: this one
	// begins behind all of them.
	last := api.Stamp{Wall: upper, Tick: api.MaxTick}
	return &Clock{offset: offset, upper: upper, mark: mark, last: last}, api.OK
}

// Now is a stamp behind all that were given.
func (c *Clock) Now(phys int64) (api.Stamp, api.Errno) {
	switch {
	case c == nil:
		return api.Stamp{}, api.ErrNil
	case !isReading(phys):
		return api.Stamp{}, api.ErrArg
	}
	return c.give(phys, c.last)
}

// Update is a stamp behind all that were given, and behind one that came in.
func (c *Clock) Update(phys int64, in api.Stamp) (api.Stamp, api.Errno) {
	switch {
	case c == nil:
		return api.Stamp{}, api.ErrNil
	case !isReading(phys), !stamp.Right(in):
		return api.Stamp{}, api.ErrArg
	case in.Wall-phys > c.offset:
		return api.Stamp{}, api.ErrOffset
	case stamp.Compare(in, c.last) > 0:
		return c.give(phys, in)
	}
	return c.give(phys, c.last)
}

// Raise lets stamps be given up to another bound, which is to last ahead of
// this call.
func (c *Clock) Raise(upper int64) api.Errno {
	switch {
	case c == nil:
		return api.ErrNil
	case upper < c.upper, upper > api.MaxWall:
		return api.ErrArg
	}
	c.upper = upper
	return api.OK
}

// Upper is the bound.
func (c *Clock) Upper() int64 {
	if c == nil {
		return 0
	}
	return c.upper
}

// Last is the last stamp, with the Mark 0.
func (c *Clock) Last() api.Stamp {
	if c == nil {
		return api.Stamp{}
	}
	return c.last
}

func isReading(phys int64) bool {
	return phys >= 0 && phys <= api.MaxWall
}

// give gives the candidate of a reading and a stamp, or tells why it doesn't.
func (c *Clock) give(phys int64, behind api.Stamp) (api.Stamp, api.Errno) {
	s, e := candidate(phys, behind)
	switch {
	case e != api.OK:
		return api.Stamp{}, e
	case s.Wall > c.upper:
		return api.Stamp{}, api.ErrUpper
	}
	c.last = s
	s.Mark = c.mark
	return s, api.OK
}

// candidate is the first stamp that is behind the one that is told, and whose
// Wall isn't below the reading.
func candidate(phys int64, behind api.Stamp) (api.Stamp, api.Errno) {
	if phys > behind.Wall {
		return api.Stamp{Wall: phys}, api.OK
	}
	return stamp.Next(behind)
}
