package certificate

import (
	"slices"

	"telpher/api"
	"telpher/dnf"
	"telpher/typeterm"
)

// A comparison of the branch b with a branch of a type finds out all that can be found without a
// search, and the goals that remain.
type comparison struct {
	*ledger
	b         api.Branch
	assigned  []*api.Type // by variable of the other branch; nil if it is not assigned
	covariant []occurrence
	goals     []*goal // in the order of P7.1
	ok        bool    // whether b matches if the goals hold
}

// An occurrence is the part of b at a covariant occurrence of a variable of the other branch.
type occurrence struct {
	part     api.Type
	variable int
}

func (l *ledger) compare(b, pattern api.Branch) *comparison {
	m := &comparison{ledger: l, b: b, assigned: make([]*api.Type, len(pattern.Bounds))}
	m.ok = m.matches(b.Body, pattern.Body) && all(m.covariant, m.holds)
	if m.ok {
		for i, bound := range pattern.Bounds {
			m.requireBelow(*m.assigned[i], bound)
		}
	}
	return m
}

// matches compares a part of b with a part of the other branch.
func (m *comparison) matches(x, y api.Type) bool {
	switch y.Kind {
	case api.KindAny:
		return true
	case api.KindVar:
		m.covariant = append(m.covariant, occurrence{x, y.Index})
		return true
	case api.KindTuple:
		return x.Kind == api.KindTuple && slices.EqualFunc(x.Args, y.Args, m.matches)
	}
	super, ok := m.supertype(x, y.Name)
	return ok && slices.EqualFunc(super.Args, y.Args, m.fits)
}

// supertype goes step by step and stops at a type that is too large, because the supertypes of
// types that are not normal may double in size at each step.
func (m *comparison) supertype(t api.Type, name string) (api.Type, bool) {
	for t.Kind == api.KindNamed && t.Name != name {
		if typeterm.Size(t) > api.MaxNodes {
			return api.Type{}, false
		}
		d, _ := m.h.Lookup(t.Name)
		t, _ = m.h.Supertype(t, d.Super.Name)
	}
	return t, t.Kind == api.KindNamed
}

// fits compares the argument x of b with the argument y of the other branch.
func (m *comparison) fits(x, y api.Type) bool {
	switch {
	case y.Kind == api.KindVar && m.assigned[y.Index] == nil:
		m.assigned[y.Index] = &x
		return true
	case y.Kind == api.KindVar:
		return m.agree(*m.assigned[y.Index], x)
	case isClosed(y):
		return isClosed(x) && m.requireEquivalent(x, y)
	}
	return haveOneName(x, y) && slices.EqualFunc(x.Args, y.Args, m.fits)
}

// agree compares two plain terms over the variables of b.
func (m *comparison) agree(x, y api.Type) bool {
	switch {
	case isClosed(x) && isClosed(y):
		return m.requireEquivalent(x, y)
	case x.Kind == api.KindVar:
		return typeterm.Equal(x, y)
	}
	return haveOneName(x, y) && slices.EqualFunc(x.Args, y.Args, m.agree)
}

// holds compares the part at an occurrence with the assigned term.
func (m *comparison) holds(o occurrence) bool {
	y := *m.assigned[o.variable]
	switch {
	case isClosed(y):
		m.requireBelow(o.part, y)
		return true
	case y.Kind == api.KindVar:
		return typeterm.Equal(o.part, y)
	}
	super, ok := m.supertype(o.part, y.Name)
	return ok && slices.EqualFunc(super.Args, y.Args, m.agree)
}

// requireBelow adds the goal that a part of b, or a plain term over its variables, is a subtype of
// a closed type.
func (m *comparison) requireBelow(part, t api.Type) {
	m.goals = append(m.goals, m.goal(dnf.ExpandPart(m.b, part), m.target(t)))
}

// requireEquivalent adds the goals that two closed types are subtypes of each other. It returns
// false if one of them cannot be expanded, and so is equivalent to nothing.
func (m *comparison) requireEquivalent(x, y api.Type) bool {
	m.goals = append(m.goals, m.subtyping(x, y), m.subtyping(y, x))
	return m.target(x).ok && m.target(y).ok
}

func isClosed(t api.Type) bool { return len(typeterm.FreeVars(t)) == 0 }

func haveOneName(x, y api.Type) bool {
	return x.Kind == api.KindNamed && y.Kind == api.KindNamed && x.Name == y.Name
}

// all reports whether holds is true of all members of a list.
func all[T any](list []T, holds func(T) bool) bool {
	return !slices.ContainsFunc(list, func(member T) bool { return !holds(member) })
}
