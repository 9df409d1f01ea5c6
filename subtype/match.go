package subtype

import "telpher/api"

// A match is the state of a match of the branch b against a pattern.
//
// It also tells what may come of the match when b is split: at a covariant occurrence of b, a
// comparison with a tuple or a nominal type is left open. An occurrence has its number in
// dnf.CovariantVars(b).
type match struct {
	*solver
	b, pattern *branch
	assigned   []*term // by variable of the pattern; nil if it is not assigned
	unknown    []bool  // whether the term to be assigned depends on an open comparison
	deferred   []deferral
	open       []int // the occurrences at which a comparison is open
	passed     int   // the number of the next occurrence
}

// A deferral is the part of b at a covariant occurrence of a variable of the pattern.
type deferral struct {
	part     *term
	first    int // the number of the first occurrence in part
	variable int
}

// match returns the terms that are assigned to the variables of a pattern.
func (s *solver) match(b, pattern *branch) ([]*term, bool) {
	m := s.newMatch(b, pattern)
	ok := m.compare(b.body, pattern.body) && len(m.open) == 0 && all(m.deferred, m.holds) && m.keepsBounds()
	return m.assigned, ok
}

func (s *solver) newMatch(b, pattern *branch) *match {
	count := len(pattern.bounds())
	return &match{solver: s, b: b, pattern: pattern, assigned: make([]*term, count), unknown: make([]bool, count)}
}

// compare compares a part of b with a part of the pattern. It returns false if they do not match
// whatever comes of open comparisons.
func (m *match) compare(x, y *term) bool {
	switch {
	case y.kind == api.KindAny:
		m.passed += x.covariant
		return true
	case y.kind == api.KindVar:
		m.deferred = append(m.deferred, deferral{x, m.passed, y.index})
		m.passed += x.covariant
		return m.hasVariable(y)
	case y.kind != api.KindNamed && y.kind != api.KindTuple:
		return false
	case x.kind == api.KindVar:
		m.open = append(m.open, m.passed)
		m.passed++
		m.leaveUnknown(y)
		return true
	case x.kind != y.kind:
		return false
	case x.kind == api.KindTuple:
		return pairwise(x.args, y.args, m.compare)
	}
	super, ok := m.supertype(x, y.name)
	return ok && pairwise(super.args, y.args, m.fits)
}

// fits reports whether the argument x fits the argument y of the pattern.
func (m *match) fits(x, y *term) bool {
	switch {
	case y.kind == api.KindVar:
		return m.hasVariable(y) && m.fitsVariable(x, y.index)
	case y.isClosed():
		return x.isClosed() && m.equivalent(x, y)
	}
	return y.kind == api.KindNamed && x.kind == api.KindNamed && x.name == y.name && pairwise(x.args, y.args, m.fits)
}

func (m *match) hasVariable(y *term) bool { return 0 <= y.index && y.index < len(m.assigned) }

func (m *match) fitsVariable(x *term, variable int) bool {
	switch {
	case m.unknown[variable]:
		return true
	case m.assigned[variable] == nil:
		m.assigned[variable] = x
		return true
	}
	return m.agree(x, m.assigned[variable])
}

// leaveUnknown notes the variables that a part of the pattern, which is not compared, may assign.
func (m *match) leaveUnknown(y *term) {
	switch y.kind {
	case api.KindVar:
		if m.hasVariable(y) && m.assigned[y.index] == nil {
			m.unknown[y.index] = true
		}
	case api.KindTuple, api.KindNamed:
		for _, arg := range y.args {
			m.leaveUnknown(arg)
		}
	}
}

// holds reports whether a deferred part is a subtype of the term that is assigned to the variable.
func (m *match) holds(d deferral) bool {
	y := m.assigned[d.variable]
	switch {
	case y == nil:
		return false
	case y.isClosed():
		return m.isPartBelow(m.b, d.part, y)
	}
	return m.isBelowOpen(d.part, y)
}

// isBelowOpen reports whether a part of b is a subtype of an assigned term that is not closed.
func (m *match) isBelowOpen(part, y *term) bool {
	if y.kind != api.KindNamed {
		return part == y
	}
	super, ok := m.supertype(part, y.name)
	return ok && pairwise(super.args, y.args, m.agree)
}

// keepsBounds reports whether all assigned terms are subtypes of the upper bounds of their
// variables, as far as they are known.
func (m *match) keepsBounds() bool {
	for i, bound := range m.pattern.bounds() {
		y := m.assigned[i]
		if !m.unknown[i] && (y == nil || !m.isPartBelow(m.b, y, bound)) {
			return false
		}
	}
	return true
}
