package typeterm

import (
	"telpher/api"
	"telpher/sexpr"
)

// Validate checks the structure of t.
func Validate(t api.Type) api.Errno {
	if spend(t, api.MaxNodes, api.MaxTypeDepth) < 0 {
		return api.ErrTooLong
	}
	if !isValid(t) {
		return api.ErrInvalid
	}
	return api.OK
}

// spend returns what the nodes of t leave of a number of nodes, or -1 if there are more of them
// or more levels. It stops as soon as that is known, because t may be far beyond the limits.
func spend(t api.Type, nodes, levels int) int {
	if nodes == 0 || levels == 0 {
		return -1
	}
	nodes--
	for _, arg := range t.Args {
		if nodes = spend(arg, nodes, levels-1); nodes < 0 {
			return -1
		}
	}
	return nodes
}

// isValid reports whether all nodes of t, which is within the limits, are valid.
func isValid(t api.Type) bool {
	if !isValidNode(t) {
		return false
	}
	for _, arg := range t.Args {
		if !isValid(arg) {
			return false
		}
	}
	return true
}

func isValidNode(t api.Type) bool {
	usesName := t.Kind == api.KindNamed
	usesIndex := t.Kind == api.KindVar
	if t.Name != "" && !usesName || t.Index != 0 && !usesIndex {
		return false
	}
	switch t.Kind {
	case api.KindAny, api.KindNever:
		return len(t.Args) == 0
	case api.KindNamed:
		return isTypeName(t.Name) && len(t.Args) <= api.MaxArgs && arePlain(t.Args)
	case api.KindTuple:
		return len(t.Args) <= api.MaxArgs
	case api.KindUnion:
		return len(t.Args) >= 2
	case api.KindVar:
		return len(t.Args) == 0 && 0 <= t.Index && t.Index <= api.MaxNodes
	case api.KindExists:
		return len(t.Args) == 2 && isClosed(t.Args[0], 0)
	}
	return false
}

// isTypeName reports whether name is an identifier that the syntax of types does not reserve.
func isTypeName(name string) bool {
	switch name {
	case "Any", "Never", "tuple", "union", "exists":
		return false
	}
	return sexpr.IsIdent(name)
}
