package normalize

import (
	"slices"

	"telpher/api"
	"telpher/dnf"
	"telpher/hierarchy"
	"telpher/subtype"
)

// irredundant returns the branches that remain when each one is removed, in order, that is a
// subtype of the union of all others that remain.
func irredundant(h *hierarchy.Hierarchy, branches []api.Branch) []api.Branch {
	for i := 0; i < len(branches); {
		others := slices.Delete(slices.Clone(branches), i, i+1)
		if isBelowAny(h, branches[i], others) {
			branches = others
		} else {
			i++
		}
	}
	return branches
}

// isBelowAny reports whether b is a subtype of the union of others. The relation is decided only
// for those whose names and tuples do not rule out a match, because most branches of a large
// union differ in them.
func isBelowAny(h *hierarchy.Hierarchy, b api.Branch, others []api.Branch) bool {
	var similar []api.Branch
	for _, other := range others {
		if mayMatch(h, b.Body, other.Body) {
			similar = append(similar, other)
		}
	}
	if len(similar) == 0 && len(dnf.CovariantVars(b)) == 0 {
		return false
	}
	return subtype.BranchIsSubtype(h, b, dnf.UnionOf(similar))
}

// mayMatch reports whether a part x of a body, or what a split makes of it, may match the part y
// of another body.
func mayMatch(h *hierarchy.Hierarchy, x, y api.Type) bool {
	switch {
	case y.Kind == api.KindAny || y.Kind == api.KindVar || x.Kind == api.KindVar:
		return true
	case x.Kind != y.Kind:
		return false
	case x.Kind == api.KindNamed:
		return h.IsAncestor(y.Name, x.Name)
	}
	return slices.EqualFunc(x.Args, y.Args, func(x, y api.Type) bool { return mayMatch(h, x, y) })
}
