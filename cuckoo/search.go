package cuckoo

import (
	"iter"
	"slices"

	"bazaar/api"
)

// none is the step ahead of a key's own places.
const none = -1

// step is a place of the search, and which step it was put behind for: that at whose place the one is who could go here.
type step struct {
	at   api.Place
	from int
}

// search is all places that were ever put in the row: those that were looked at, then those that still stand in it.
type search struct {
	steps []step
	put   map[api.Place]struct{}
}

// add puts places behind, each that never was in the row.
func (s *search) add(places iter.Seq[api.Place], from int) {
	for p := range places {
		if _, was := s.put[p]; was {
			continue
		}
		s.put[p] = struct{}{}
		s.steps = append(s.steps, step{at: p, from: from})
	}
}

// back is the way from one of a key's own places to that of step n.
func (s *search) back(n int) []api.Place {
	var way []api.Place
	for ; n != none; n = s.steps[n].from {
		way = append(way, s.steps[n].at)
	}
	slices.Reverse(way)
	return way
}

// way is that by which a key finds room, the free place last; nil, if there is none within as many places as may be looked at.
func (t *Table) way(k api.Key) []api.Place {
	s := search{put: map[api.Place]struct{}{}}
	s.add(t.f.Places(k), none)
	for n := 0; n < len(s.steps) && n < t.evict; n++ {
		at := s.steps[n].at
		if t.free(at) {
			return s.back(n)
		}
		owner, _ := t.Owner(at)
		s.add(t.f.Places(owner), n)
	}
	return nil
}

// free tells whether somebody may be put there: a family of a greater configuration tells places that are none here.
func (t *Table) free(p api.Place) bool {
	_, there := t.seats.Get(p)
	return t.seats.In(p) && !there
}
