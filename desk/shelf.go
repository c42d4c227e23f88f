package desk

import (
	"slices"

	"almanacker/api"
)

// shelf keeps lists of any things by any keys; none of its lists is ever handed out itself.
type shelf[K comparable, T any] struct {
	lists map[K][]T
}

// take tells a copy of the list of a key, and whether it was kept already; else it is fetched, and kept if it is there.
func (s *shelf[K, T]) take(key K, fetch func() ([]T, api.Errno)) ([]T, bool, api.Errno) {
	if kept, ok := s.lists[key]; ok {
		return slices.Clone(kept), true, api.OK
	}
	l, err := fetch()
	if err != api.OK {
		return nil, false, err
	}
	if s.lists == nil {
		s.lists = map[K][]T{}
	}
	s.lists[key] = slices.Clone(l)
	return l, false, api.OK
}
