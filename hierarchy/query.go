package hierarchy

import (
	"slices"

	"telpher/api"
	"telpher/typeterm"
)

// Knows reports whether all nominal types in t are declared with the right arity.
func (h *Hierarchy) Knows(t api.Type) bool { return everyNamed(t, h.declares) }

// everyNamed reports whether holds is true of every KindNamed node of t.
func everyNamed(t api.Type, holds func(node api.Type) bool) bool {
	if t.Kind == api.KindNamed && !holds(t) {
		return false
	}
	for _, arg := range t.Args {
		if !everyNamed(arg, holds) {
			return false
		}
	}
	return true
}

// declares reports whether the KindNamed node has the name and the arity of a declaration.
func (h *Hierarchy) declares(node api.Type) bool {
	d, ok := h.decls[node.Name]
	return ok && agrees(d, node)
}

// agrees reports whether the KindNamed node has the name and the arity of d.
func agrees(d api.Decl, node api.Type) bool {
	return node.Name == d.Name && len(node.Args) == d.Arity
}

// Supertype returns the supertype of the nominal type t that has the given name.
func (h *Hierarchy) Supertype(t api.Type, name string) (api.Type, bool) {
	if t.Kind != api.KindNamed {
		return api.Type{}, false
	}
	if t.Name == name {
		return copyTerm(t), true
	}
	if !h.declares(t) {
		return api.Type{}, false
	}
	super, ok := h.superCalled(name, h.decls[t.Name])
	if !ok {
		return api.Type{}, false
	}
	return typeterm.Instantiate(super, t.Args), true
}

// superCalled returns the supertype of d that has the given name, in terms of the parameters of d.
// It instantiates from the top of the chain downwards: on the way up, a type may double in size
// at each step, even if the supertype that is asked for does not exist or has no arguments.
func (h *Hierarchy) superCalled(name string, d api.Decl) (api.Type, bool) {
	if d.Super.Kind != api.KindNamed {
		return api.Type{}, false
	}
	if d.Super.Name == name {
		return d.Super, true
	}
	super, ok := h.superCalled(name, h.decls[d.Super.Name])
	if !ok {
		return api.Type{}, false
	}
	return typeterm.Instantiate(super, d.Super.Args), true
}

// IsAncestor reports whether the type called name is of or one of its supertypes.
func (h *Hierarchy) IsAncestor(name, of string) bool {
	d, declared := h.decls[of]
	for d.Name != name && d.Super.Kind == api.KindNamed {
		d = h.decls[d.Super.Name]
	}
	return declared && (d.Name == name || name == "Any")
}

// Field returns the index and the type of a field of the concrete nominal type t.
func (h *Hierarchy) Field(t api.Type, name string) (int, api.Type, bool) {
	declared, _ := h.declaredFields(t)
	i := slices.IndexFunc(declared, func(f api.Field) bool { return f.Name == name })
	if i < 0 {
		return 0, api.Type{}, false
	}
	return i, typeterm.Instantiate(declared[i].Type, t.Args), true
}

// Fields returns the fields of the concrete nominal type t.
func (h *Hierarchy) Fields(t api.Type) ([]api.Field, bool) {
	declared, ok := h.declaredFields(t)
	if !ok {
		return nil, false
	}
	var fields []api.Field
	for _, f := range declared {
		fields = append(fields, api.Field{Name: f.Name, Type: typeterm.Instantiate(f.Type, t.Args)})
	}
	return fields, true
}

// declaredFields returns the fields of the declaration of the concrete nominal type t,
// in terms of its parameters and in the memory of the hierarchy.
func (h *Hierarchy) declaredFields(t api.Type) ([]api.Field, bool) {
	if t.Kind != api.KindNamed || !h.declares(t) {
		return nil, false
	}
	d := h.decls[t.Name]
	return d.Fields, d.Concrete
}
