package normalize

import (
	"slices"

	"telpher/api"
	"telpher/hierarchy"
	"telpher/typeterm"
)

// mostTerms limits the different terms that are come to from a normal form.
const mostTerms = 400

// hasRoom reports whether a normal form, and all terms that are come to from it, are within the limits.
func hasRoom(h *hierarchy.Hierarchy, t api.Type) bool {
	var known []api.Type // in ascending order
	open := []api.Type{t}
	for len(open) > 0 {
		last := len(open) - 1
		next := open[last]
		open = open[:last]
		if typeterm.Size(next) > api.MaxNodes || typeterm.Depth(next) > api.MaxTypeDepth {
			return false
		}
		at, isKnown := slices.BinarySearchFunc(known, next, typeterm.Compare)
		if isKnown {
			continue
		}
		if len(known) == mostTerms {
			return false
		}
		known = slices.Insert(known, at, next)
		open = append(open, termsFrom(h, next)...)
	}
	return true
}

// termsFrom returns the terms that are come to from a closed term in one step.
func termsFrom(h *hierarchy.Hierarchy, t api.Type) []api.Type {
	switch t.Kind {
	case api.KindExists:
		bound, body := t.Args[0], t.Args[1]
		return []api.Type{bound, typeterm.Substitute(body, bound)}
	case api.KindNamed:
		d, ok := h.Lookup(t.Name)
		if ok && d.Arity == len(t.Args) && d.Super.Kind == api.KindNamed {
			return append(slices.Clone(t.Args), typeterm.Instantiate(d.Super, t.Args))
		}
	}
	return t.Args
}
