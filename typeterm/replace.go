package typeterm

import (
	"telpher/api"
)

// Substitute replaces the free variable 0 of t by the closed term by.
func Substitute(t, by api.Type) api.Type {
	return replaceFree(t, 0, func(node api.Type, free int) (api.Type, bool) {
		if free == 0 {
			return by, true
		}
		node.Index--
		return node, false
	})
}

// Instantiate replaces the free variables 0 to len(l)-1 of t by the closed terms l.
func Instantiate(t api.Type, l []api.Type) api.Type {
	return replaceFree(t, 0, func(node api.Type, free int) (api.Type, bool) {
		if free < len(l) {
			return l[free], true
		}
		return node, false
	})
}

// replaceFree copies t, which lies in so many bodies. For the node of each free variable,
// choose returns the term in its place and true, or false and the node that it becomes.
func replaceFree(t api.Type, bodies int, choose func(node api.Type, free int) (api.Type, bool)) api.Type {
	if isFree(t, bodies) {
		term, done := choose(t, t.Index-bodies)
		if done {
			return copyTerm(term)
		}
		t = term
	}
	return withArgs(t, func(i int, arg api.Type) api.Type {
		return replaceFree(arg, bodiesAround(t, i, bodies), choose)
	})
}

// copyTerm returns t in memory of its own, because each occurrence of a term in a result needs one.
func copyTerm(t api.Type) api.Type {
	return withArgs(t, func(_ int, arg api.Type) api.Type { return copyTerm(arg) })
}

// withArgs returns t with new Args, which change makes of the old ones.
func withArgs(t api.Type, change func(i int, arg api.Type) api.Type) api.Type {
	old := t.Args
	t.Args = nil
	for i, arg := range old {
		t.Args = append(t.Args, change(i, arg))
	}
	return t
}
