package typeterm

import "slices"

// sortedSet is a set of members that are added in any order, also repeatedly.
type sortedSet[T int | string] struct {
	added []T
}

func (s *sortedSet[T]) add(member T) { s.added = append(s.added, member) }

// list returns the members in ascending order. They are sorted only here, because
// putting each one in its place would take quadratic time for a large term.
func (s *sortedSet[T]) list() []T {
	slices.Sort(s.added)
	s.added = slices.Compact(s.added)
	return slices.Clone(s.added)
}
