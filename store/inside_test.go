package store

import (
	"testing"

	"slackwater/api"
)

// Of points that are gone nothing is kept, as no answer hangs on it; nor of
// writes that are refused.
func TestP11_3NothingIsKeptOfWhatIsGone(t *testing.T) {
	a := []api.Pair{{Name: "a", Value: "1"}}
	for _, drop := range []func(*Store){
		func(s *Store) { s.Cut(api.Stamp{Wall: 1}) },
		func(s *Store) { s.Retain(6) },
	} {
		s := New()
		s.Put(api.Write{Time: 5, Kind: api.Gone}, api.Stamp{})
		s.Put(api.Write{Set: a, Time: 5, Kind: api.Gone}, api.Stamp{Wall: 1})
		s.Put(api.Write{Set: a, Time: 6, Kind: api.Sample}, api.Stamp{Wall: 2})
		s.Put(api.Write{Set: a, Time: 7, Kind: api.Sample}, api.Stamp{Wall: -1})
		s.Put(api.Write{Set: a[:0], Time: 7, Kind: api.Sample}, api.Stamp{Wall: -1})
		drop(s)
		if len(s.series) != 1 || len(s.series[`{a="1"}`].chains) != 1 || s.count != 1 {
			t.Errorf("kept: %v", s.series)
		}
		s.Cut(api.Stamp{Wall: 2})
		s.Retain(7)
		if len(s.series) != 0 || s.count != 0 {
			t.Errorf("kept of nothing: %v", s.series)
		}
	}
}
