package dnf

import (
	"telpher/api"
	"telpher/typeterm"
)

func variable(index int) api.Type { return api.Type{Kind: api.KindVar, Index: index} }

// copyTerm relies on Instantiate, which makes new memory even if it replaces nothing.
func copyTerm(t api.Type) api.Type { return typeterm.Instantiate(t, nil) }

// eachVar visits the occurrences of variables in a body or a plain term from left to right.
// It does not enter other terms, because they are closed.
func eachVar(t api.Type, visit func(index int, covariant bool)) { visitVars(t, true, visit) }

func visitVars(t api.Type, covariant bool, visit func(index int, covariant bool)) {
	switch t.Kind {
	case api.KindVar:
		visit(t.Index, covariant)
	case api.KindNamed, api.KindTuple:
		for _, arg := range t.Args {
			visitVars(arg, covariant && t.Kind == api.KindTuple, visit)
		}
	}
}

// replaceVars copies a body or a plain term, with other terms in the place of the occurrences
// of variables that eachVar visits.
func replaceVars(t api.Type, replace func(index int, covariant bool) api.Type) api.Type {
	return replaceInside(t, true, replace)
}

func replaceInside(t api.Type, covariant bool, replace func(index int, covariant bool) api.Type) api.Type {
	switch t.Kind {
	case api.KindVar:
		return replace(t.Index, covariant)
	case api.KindNamed, api.KindTuple:
		old := t.Args
		t.Args = make([]api.Type, len(old))
		for i, arg := range old {
			t.Args[i] = replaceInside(arg, covariant && t.Kind == api.KindTuple, replace)
		}
		return t
	}
	return copyTerm(t)
}

// relabel copies a body. For each covariant occurrence, counted from 0, and its variable,
// choose returns the index that it gets.
func relabel(body api.Type, choose func(occurrence, index int) int) api.Type {
	next := 0
	return replaceVars(body, func(index int, covariant bool) api.Type {
		if covariant {
			index = choose(next, index)
			next++
		}
		return variable(index)
	})
}
