package subtype

import (
	"slices"

	"telpher/api"
	"telpher/dnf"
	"telpher/hierarchy"
)

type expansion struct {
	branches []*branch
	ok       bool
}

// A solver answers the questions to which one call leads, each of them once: otherwise the time
// would multiply at each level of types inside one another.
type solver struct {
	terms
	h           *hierarchy.Hierarchy
	supers      map[*term]*term
	expansions  map[*term]expansion
	empty       map[*term]bool
	below       map[[2]*term]bool // by the key of a branch and a term
	closedBelow map[[2]*term]bool // by two closed terms
	agreeing    map[[2]*term]bool
}

func newSolver(h *hierarchy.Hierarchy) *solver {
	if h == nil {
		h = hierarchy.New()
	}
	return &solver{
		terms:       terms{},
		h:           h,
		supers:      map[*term]*term{},
		expansions:  map[*term]expansion{},
		empty:       map[*term]bool{},
		below:       map[[2]*term]bool{},
		closedBelow: map[[2]*term]bool{},
		agreeing:    map[[2]*term]bool{},
	}
}

// supertype returns what Hierarchy.Supertype returns. It does not call it, because that writes
// out every argument in full.
func (s *solver) supertype(t *term, name string) (*term, bool) {
	for t.kind == api.KindNamed && t.name != name {
		t = s.super(t)
	}
	return t, t.kind == api.KindNamed
}

// super returns the declared supertype of a nominal type, or Any if there is none.
func (s *solver) super(t *term) *term {
	super, known := s.supers[t]
	if !known {
		super = s.term(api.Type{})
		if d, ok := s.h.Lookup(t.name); ok && d.Arity == len(t.args) {
			super = s.replace(s.term(d.Super), func(parameter int) *term { return t.args[parameter] })
		}
		s.supers[t] = super
	}
	return super
}

// expand returns the branches of t, or false if Expand fails.
func (s *solver) expand(t *term) ([]*branch, bool) {
	e, known := s.expansions[t]
	if !known {
		// Larger terms are not valid, and may be too large to be written.
		if t.nodes <= api.MaxNodes {
			l, err := dnf.Expand(t.write())
			e.ok = err == api.OK
			for _, b := range l {
				e.branches = append(e.branches, s.branch(b))
			}
		}
		s.expansions[t] = e
	}
	return e.branches, e.ok
}

// isSubtype reports whether x is a subtype of t, both of which are closed.
func (s *solver) isSubtype(x, t *term) bool {
	_, ok := s.expand(x)
	_, okT := s.expand(t)
	return ok && okT && s.isClosedBelow(x, t)
}

func (s *solver) equivalent(x, y *term) bool { return s.isSubtype(x, y) && s.isSubtype(y, x) }

// isClosedBelow reports whether all branches of a closed term, however many, are subtypes of t.
func (s *solver) isClosedBelow(x, t *term) bool {
	pair := [2]*term{x, t}
	answer, known := s.closedBelow[pair]
	if !known {
		answer = s.allBranches(x, func(b *branch) bool { return s.isBelow(b, t) })
		s.closedBelow[pair] = answer
	}
	return answer
}

// allBranches reports whether holds is true of all branches of a closed term.
func (s *solver) allBranches(x *term, holds func(*branch) bool) bool {
	if x.kind == api.KindNamed {
		return holds(s.newBranch(s.tuple(), x))
	}
	if l, ok := s.expand(x); ok {
		return all(l, holds)
	}
	return s.every(dnf.ExpandPart(api.Branch{}, x.write()), holds)
}

// every reports whether holds is true of all branches of a list, which may be long.
func (s *solver) every(l []api.Branch, holds func(*branch) bool) bool {
	return all(l, func(b api.Branch) bool { return holds(s.branch(b)) })
}

// isAny reports whether a branch of t is Any, so that every branch is a subtype of t.
func (s *solver) isAny(t *term) bool {
	patterns, _ := s.expand(t)
	return slices.ContainsFunc(patterns, func(p *branch) bool { return p.body.kind == api.KindAny })
}

// isPartBelow reports whether a part of b, or a plain term over its variables, is a subtype of
// the closed type t.
func (s *solver) isPartBelow(b *branch, part, t *term) bool {
	bound, isVar := b.boundOf(part)
	switch {
	case s.isAny(t):
		return true
	case part.isClosed():
		return s.isClosedBelow(part, t)
	case isVar:
		return s.isClosedBelow(bound, t)
	case part.kind == api.KindNamed:
		return s.isBelow(s.newBranch(b.scope, part), t)
	}
	alone := s.alone(b, part)
	return s.every(dnf.ExpandPart(alone, alone.Body), func(b *branch) bool { return s.isBelow(b, t) })
}

// isBelow reports whether b is a subtype of t.
func (s *solver) isBelow(b *branch, t *term) bool {
	pair := [2]*term{b.key, t}
	answer, known := s.below[pair]
	if !known {
		answer = s.decide(b, t)
		s.below[pair] = answer
	}
	return answer
}

// agree reports whether two plain terms over the variables of one branch agree.
func (s *solver) agree(x, y *term) bool {
	if x.kind == api.KindVar && x == y || x.isClosed() && y.isClosed() && s.equivalent(x, y) {
		return true
	}
	if x.kind != api.KindNamed || y.kind != api.KindNamed || x.name != y.name {
		return false
	}
	pair := [2]*term{x, y}
	answer, known := s.agreeing[pair]
	if !known {
		answer = pairwise(x.args, y.args, s.agree)
		s.agreeing[pair] = answer
	}
	return answer
}
