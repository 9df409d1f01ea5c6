package hierarchy

import (
	"telpher/api"
	"telpher/sexpr"
	"telpher/typeterm"
)

// Declare adds a declaration.
func (h *Hierarchy) Declare(d api.Decl) api.Errno {
	switch known, exists := h.decls[d.Name]; {
	case !isValid(d):
		return api.ErrInvalid
	case d.Arity > api.MaxArgs || len(d.Fields) > api.MaxArgs:
		return api.ErrTooLong
	case exists && sameDecl(known, d):
		return api.OK
	case exists:
		return api.ErrDuplicate
	case len(h.names) >= api.MaxDecls:
		return api.ErrFull
	case !h.Knows(d.Super) || !h.knowsFields(d):
		return api.ErrUnknownName
	case h.decls[d.Super.Name].Concrete:
		return api.ErrWrongKind
	}
	h.add(d)
	return api.OK
}

// isValid checks what can be seen of d without the other declarations.
func isValid(d api.Decl) bool {
	if !isTypeName(d.Name) || d.Arity < 0 || !isValidSuper(d) {
		return false
	}
	return len(d.Fields) == 0 || d.Concrete && areValidFields(d)
}

// isTypeName relies on Validate, whose rule for the names of nominal types is the one for declared names.
func isTypeName(name string) bool {
	return typeterm.Validate(api.Type{Kind: api.KindNamed, Name: name}) == api.OK
}

func isValidSuper(d api.Decl) bool {
	return (d.Super.Kind == api.KindAny || d.Super.Kind == api.KindNamed) && isValidTerm(d.Super, d.Arity)
}

func areValidFields(d api.Decl) bool {
	seen := map[string]bool{}
	for _, f := range d.Fields {
		if !sexpr.IsIdent(f.Name) || seen[f.Name] || !isValidTerm(f.Type, d.Arity) {
			return false
		}
		seen[f.Name] = true
	}
	return true
}

// isValidTerm reports whether a declaration with so many parameters may contain t.
func isValidTerm(t api.Type, arity int) bool {
	if typeterm.Validate(t) != api.OK || !typeterm.IsPlain(t) {
		return false
	}
	free := typeterm.FreeVars(t)
	return len(free) == 0 || free[len(free)-1] < arity
}

// knowsFields reports whether the field types of d are known once d itself is declared.
func (h *Hierarchy) knowsFields(d api.Decl) bool {
	for _, f := range d.Fields {
		known := everyNamed(f.Type, func(node api.Type) bool { return agrees(d, node) || h.declares(node) })
		if !known {
			return false
		}
	}
	return true
}
