package normalize

import (
	"slices"

	"telpher/api"
	"telpher/dnf"
	"telpher/hierarchy"
	"telpher/typeterm"
)

func isClosed(t api.Type) bool { return len(typeterm.FreeVars(t)) == 0 }

// normalForm returns the normal form of a closed type that h knows, or false if it exceeds a limit.
func normalForm(h *hierarchy.Hierarchy, t api.Type) (api.Type, bool) {
	t, ok := normalInside(h, t)
	if !ok {
		return api.Type{}, false
	}
	branches, err := dnf.Expand(t)
	if err != api.OK || typeterm.Validate(dnf.UnionOf(branches)) != api.OK {
		return api.Type{}, false
	}
	branches = irredundant(h, branches)
	slices.SortFunc(branches, func(a, b api.Branch) int {
		return typeterm.Compare(dnf.BranchType(a), dnf.BranchType(b))
	})
	normal := dnf.UnionOf(branches)
	return normal, hasRoom(h, normal)
}

// normalInside returns t with the normal forms of its closed arguments and upper bounds in their places.
func normalInside(h *hierarchy.Hierarchy, t api.Type) (api.Type, bool) {
	old := t.Args
	t.Args = nil
	for i, arg := range old {
		change := normalInside
		if t.Kind == api.KindNamed && isClosed(arg) || t.Kind == api.KindExists && i == 0 {
			change = normalForm
		}
		arg, ok := change(h, arg)
		if !ok {
			return api.Type{}, false
		}
		t.Args = append(t.Args, arg)
	}
	return t, true
}
