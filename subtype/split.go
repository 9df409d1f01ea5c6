package subtype

import (
	"slices"

	"telpher/api"
	"telpher/dnf"
)

// decide finds out whether b is a subtype of t.
//
// A split may be needed for one match and spoil another one, so that there may be no way but to
// try several splits, in several orders. But with upper bounds that have covariant occurrences
// themselves there would be no end of orders. So it passes over the splits that can help nowhere,
// and looks no further if one is wanted that spoils nothing.
func (s *solver) decide(b *branch, t *term) bool {
	patterns, ok := s.expand(t)
	if !ok {
		return false
	}
	matches := func(p *branch) bool {
		_, ok := s.match(b, p)
		return ok
	}
	if slices.ContainsFunc(patterns, matches) || s.isVoid(b) {
		return true
	}
	if b.body.covariant == 0 {
		return false
	}
	useful, _ := s.prospects(b, b.body, 0, t)
	isSubtypeAt := func(k int) bool { return s.isBelowSplit(b, k, t) }
	for _, k := range useful.wanted {
		if !slices.Contains(useful.opposed, k) {
			return isSubtypeAt(k)
		}
	}
	slices.Sort(useful.opposed) // in which are all that are wanted
	return slices.ContainsFunc(slices.Compact(useful.opposed), isSubtypeAt)
}

// isBelowSplit reports whether all branches of the split of b at occurrence k are subtypes of t.
func (s *solver) isBelowSplit(b *branch, k int, t *term) bool {
	l, ok := dnf.SplitAt(b.write(), k)
	return ok && s.every(l, func(part *branch) bool { return s.isBelow(part, t) })
}

// isVoid reports whether splits of b leave no branch at all.
func (s *solver) isVoid(b *branch) bool { return s.hasEmpty(b, b.body) }

// hasEmpty reports whether there is a covariant occurrence in a part of b of a variable whose
// upper bound is empty.
func (s *solver) hasEmpty(b *branch, part *term) bool {
	if bound, isVar := b.boundOf(part); isVar {
		return s.isEmpty(bound)
	}
	if part.kind != api.KindTuple || part.covariant == 0 {
		return false
	}
	return slices.ContainsFunc(part.args, func(arg *term) bool { return s.hasEmpty(b, arg) })
}

func (s *solver) isEmpty(bound *term) bool {
	empty, known := s.empty[bound]
	if !known {
		empty = s.allBranches(bound, s.isVoid)
		s.empty[bound] = empty
	}
	return empty
}

// splits are the covariant occurrences at which a split of a branch may help to match a pattern,
// by their numbers in dnf.CovariantVars. Where a split is wanted, there is no match without it.
// Where it is opposed, the match may be one of the variable itself, which a split would spoil.
// Elsewhere, a pattern matches without a split whenever it matches with it.
type splits struct{ wanted, opposed []int }

func (l *splits) add(more splits) {
	l.wanted = append(l.wanted, more.wanted...)
	l.opposed = append(l.opposed, more.opposed...)
}

// prospects returns the splits of a part of b that may help to make it a subtype of t, or false
// if none will. The first occurrence in part has the number first.
func (s *solver) prospects(b *branch, part *term, first int, t *term) (splits, bool) {
	var found splits
	exist := false
	patterns, _ := s.expand(t)
	for _, p := range patterns {
		m := s.newMatch(b, p)
		m.passed = first
		if m.compare(part, p.body) && m.keepsBounds() {
			more, ok := m.prospects()
			found.add(more)
			exist = exist || ok
		}
	}
	return found, exist
}

// prospects returns the splits that may complete the match, or false if none will.
func (m *match) prospects() (splits, bool) {
	found := splits{wanted: m.open}
	for _, d := range m.deferred {
		more, ok := m.deferredProspects(d)
		if !ok {
			return splits{}, false
		}
		found.add(more)
	}
	return found, true
}

func (m *match) deferredProspects(d deferral) (splits, bool) {
	y := m.assigned[d.variable]
	switch {
	case m.unknown[d.variable] || d.part == y:
		var inside splits
		for i := range d.part.covariant {
			inside.opposed = append(inside.opposed, d.first+i)
		}
		return inside, true
	case y == nil:
		return splits{}, false
	case y.isClosed():
		return m.solver.prospects(m.b, d.part, d.first, y)
	}
	return splits{}, m.isBelowOpen(d.part, y)
}
