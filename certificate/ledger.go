package certificate

import (
	"telpher/api"
	"telpher/dnf"
	"telpher/hierarchy"
)

// A ledger holds the goals to which one call leads, each of them once: the same goal may stand
// in thousands of places of a certificate.
type ledger struct {
	h       *hierarchy.Hierarchy
	targets map[string]*target
	goals   map[goalKey]*goal
}

// A target is a closed type of which something is to be a subtype.
type target struct {
	t        api.Type
	branches []api.Branch
	ok       bool // whether t can be expanded; otherwise it has no branches here
}

// A goal is that each of some branches is a subtype of one type.
type goal struct{ claims []*claim }

type goalKey struct {
	branches string
	above    *target
}

// A claim is that a branch is a subtype of a type.
type claim struct {
	*ledger
	b           api.Branch
	above       *target
	comparisons []*comparison // with the branches of the type; nil if not made yet
}

func newLedger(h *hierarchy.Hierarchy) *ledger {
	if h == nil {
		h = hierarchy.New()
	}
	return &ledger{h, map[string]*target{}, map[goalKey]*goal{}}
}

func (l *ledger) target(t api.Type) *target {
	key := string(appendTerm(nil, t))
	known := l.targets[key]
	if known == nil {
		branches, err := dnf.Expand(t)
		known = &target{t, branches, err == api.OK}
		l.targets[key] = known
	}
	return known
}

// subtyping returns the goal that s is a subtype of t, both of which can be expanded.
func (l *ledger) subtyping(s, t api.Type) *goal { return l.goal(l.target(s).branches, l.target(t)) }

func (l *ledger) goal(branches []api.Branch, above *target) *goal {
	key := goalKey{string(appendList(nil, branches, appendBranch)), above}
	known := l.goals[key]
	if known == nil {
		known = &goal{l.claims(branches, above)}
		l.goals[key] = known
	}
	return known
}

func (l *ledger) claims(branches []api.Branch, above *target) []*claim {
	var all []*claim
	for _, b := range branches {
		all = append(all, &claim{l, b, above, make([]*comparison, len(above.branches))})
	}
	return all
}

// split returns the claims to which a split at a covariant occurrence leads. They are not kept,
// because there may be a great many of them, and seldom the same ones again.
func (c *claim) split(k int) ([]*claim, bool) {
	parts, ok := dnf.SplitAt(c.b, k)
	return c.claims(parts, c.above), ok
}

// comparison returns the comparison with a branch of the type.
func (c *claim) comparison(i int) *comparison {
	if c.comparisons[i] == nil {
		c.comparisons[i] = c.compare(c.b, c.above.branches[i])
	}
	return c.comparisons[i]
}
