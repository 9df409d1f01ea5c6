package certificate

import (
	"slices"

	"telpher/api"
	"telpher/typeterm"
)

// certifies reports whether c is a type certificate for a goal.
func certifies(c api.Certificate, g *goal) bool {
	return c.Branch == 0 && c.Split == 0 && len(c.Assigned) == 0 && slices.EqualFunc(c.Parts, g.claims, certifiesClaim)
}

// certifiesClaim reports whether c is a branch certificate for a claim.
func certifiesClaim(c api.Certificate, made *claim) bool {
	switch {
	case c.Split != 0:
		return c.Branch == 0 && len(c.Assigned) == 0 && certifiesSplit(c, made)
	case c.Branch < 1 || c.Branch > len(made.above.branches):
		return false
	}
	m := made.comparison(c.Branch - 1)
	return m.ok && slices.EqualFunc(c.Assigned, m.assigned, isTerm) && slices.EqualFunc(c.Parts, m.goals, certifies)
}

func certifiesSplit(c api.Certificate, made *claim) bool {
	parts, ok := made.split(c.Split - 1)
	return ok && slices.EqualFunc(c.Parts, parts, certifiesClaim)
}

func isTerm(t api.Type, assigned *api.Type) bool { return typeterm.Equal(t, *assigned) }
