package dnf

import (
	"slices"

	"telpher/api"
	"telpher/typeterm"
)

// ValidBranch reports whether b is a branch as Expand produces it.
func ValidBranch(b api.Branch) bool {
	if len(b.Bounds) > api.MaxVars || typeterm.Validate(b.Body) != api.OK || !isBody(b.Body) {
		return false
	}
	return areNumbered(b) && len(CovariantVars(b)) <= api.MaxCovariant && areValidBounds(b.Bounds)
}

// isBody reports whether t, a valid term, has the form of a body.
func isBody(t api.Type) bool {
	switch t.Kind {
	case api.KindAny, api.KindNamed:
		return true
	case api.KindTuple:
		return !slices.ContainsFunc(t.Args, func(arg api.Type) bool {
			return arg.Kind != api.KindVar && !isBody(arg)
		})
	}
	return false
}

// areNumbered reports whether the variables in the body of b are numbered in the order of their
// first occurrences, all have bounds and invariant occurrences, and there are no further bounds.
func areNumbered(b api.Branch) bool {
	inOrder := true
	var invariant []bool // one for each variable met so far
	eachVar(b.Body, func(index int, covariant bool) {
		if index == len(invariant) {
			invariant = append(invariant, false)
		}
		if index > len(invariant) {
			inOrder = false
			return
		}
		invariant[index] = invariant[index] || !covariant
	})
	return inOrder && len(invariant) == len(b.Bounds) && !slices.Contains(invariant, false)
}

func areValidBounds(bounds []api.Type) bool {
	x := expansion{limited: true}
	return !slices.ContainsFunc(bounds, func(bound api.Type) bool {
		return !isValidClosed(bound) || !x.boundFits(x.declare(bound))
	})
}
