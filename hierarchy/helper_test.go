package hierarchy_test

import (
	"fmt"
	"slices"
	"strconv"
	"testing"

	"telpher/api"
	"telpher/hierarchy"
)

func named(name string, args ...api.Type) api.Type {
	return api.Type{Kind: api.KindNamed, Name: name, Args: args}
}

func tuple(args ...api.Type) api.Type { return node(api.KindTuple, args...) }

func union(args ...api.Type) api.Type { return node(api.KindUnion, args...) }

func exists(bound, body api.Type) api.Type { return node(api.KindExists, bound, body) }

func variable(index int) api.Type { return api.Type{Kind: api.KindVar, Index: index} }

// node returns a node of any kind, which may be malformed.
func node(kind int, args ...api.Type) api.Type { return api.Type{Kind: kind, Args: args} }

func anyType() api.Type { return api.Type{} }

func never() api.Type { return node(api.KindNever) }

func intType() api.Type { return named("Int") }

func boolType() api.Type { return named("Bool") }

// repeat returns so many copies of t.
func repeat(count int, t api.Type) []api.Type { return slices.Repeat([]api.Type{t}, count) }

// nest puts t into so many tuples, one in another.
func nest(levels int, t api.Type) api.Type {
	for range levels {
		t = tuple(t)
	}
	return t
}

func field(name string, t api.Type) api.Field { return api.Field{Name: name, Type: t} }

// manyFields returns so many fields f0, f1 and so on.
func manyFields(count int) []api.Field {
	var fields []api.Field
	for i := range count {
		fields = append(fields, field("f"+strconv.Itoa(i), intType()))
	}
	return fields
}

func abstract(name string, arity int, super api.Type) api.Decl {
	return api.Decl{Name: name, Arity: arity, Super: super}
}

func concrete(name string, arity int, super api.Type, fields ...api.Field) api.Decl {
	return api.Decl{Name: name, Arity: arity, Super: super, Concrete: true, Fields: fields}
}

// sampleDecls returns a tree of declarations: Seq above List above Vec and Row, Map above Pair and Grid, and Box and Unit on their own.
func sampleDecls() []api.Decl {
	return []api.Decl{
		abstract("Seq", 1, anyType()),
		abstract("List", 1, named("Seq", variable(0))),
		abstract("Map", 2, anyType()),
		concrete("Box", 1, anyType(), field("value", variable(0))),
		concrete("Vec", 1, named("List", named("Box", variable(0))), field("head", variable(0)), field("len", intType())),
		concrete("Row", 0, named("List", intType())),
		concrete("Pair", 2, named("Map", variable(1), named("Box", variable(0))), field("key", named("Box", variable(1))), field("value", variable(0)), field("next", union(named("Nil"), named("Pair", intType(), anyType())))),
		abstract("Grid", 3, named("Map", named("List", variable(2)), exists(anyType(), named("Box", variable(0))))),
		concrete("Unit", 0, anyType()),
	}
}

func declare(t *testing.T, h *hierarchy.Hierarchy, list ...api.Decl) {
	t.Helper()
	for _, d := range list {
		if got := h.Declare(d); got != api.OK {
			t.Fatalf("Declare(%v) = %d", d, got)
		}
	}
}

func sample(t *testing.T) *hierarchy.Hierarchy {
	t.Helper()
	h := hierarchy.New()
	declare(t, h, sampleDecls()...)
	return h
}

// doubling returns declarations of Root and D0 to D<steps>, where the argument of each supertype is twice as large as the one before.
func doubling(steps int) []api.Decl {
	list := []api.Decl{abstract("Root", 0, anyType()), abstract("Twin", 2, anyType()), abstract("D0", 1, named("Root"))}
	for i := range steps {
		list = append(list, abstract("D"+strconv.Itoa(i+1), 1, named("D"+strconv.Itoa(i), named("Twin", variable(0), variable(0)))))
	}
	return list
}

// same compares terms in all fields. It does not rely on typeterm.Equal.
func same(a, b api.Type) bool {
	return a.Kind == b.Kind && a.Name == b.Name && a.Index == b.Index && slices.EqualFunc(a.Args, b.Args, same)
}

func sameFields(a, b []api.Field) bool {
	return slices.EqualFunc(a, b, func(f, g api.Field) bool { return f.Name == g.Name && same(f.Type, g.Type) })
}

func sameDecl(a, b api.Decl) bool {
	return a.Name == b.Name && a.Arity == b.Arity && a.Concrete == b.Concrete && same(a.Super, b.Super) && sameFields(a.Fields, b.Fields)
}

// show writes a value with all its fields, nil and empty slices told apart.
func show(x any) string { return fmt.Sprintf("%#v", x) }

// scribbleTerm overwrites all nodes in the memory that t refers to.
func scribbleTerm(t api.Type) {
	for i := range t.Args {
		scribbleTerm(t.Args[i])
	}
	room := t.Args[:cap(t.Args)]
	for i := range room {
		room[i] = api.Type{Kind: 1000, Name: "scribble"}
	}
}

// scribbleFields overwrites all fields and the memory that their types refer to.
func scribbleFields(fields []api.Field) {
	for _, f := range fields {
		scribbleTerm(f.Type)
	}
	room := fields[:cap(fields)]
	for i := range room {
		room[i] = field("scribble", never())
	}
}

// scribble overwrites all memory that d refers to.
func scribble(d api.Decl) {
	scribbleTerm(d.Super)
	scribbleFields(d.Fields)
}

// malformed returns terms that are not valid.
func malformed() []api.Type {
	return []api.Type{
		node(-1), node(7), node(9, intType()), {Name: "Int"}, {Index: 1}, node(api.KindAny, intType()), node(api.KindNever, intType()),
		{Kind: api.KindNamed}, {Kind: api.KindNamed, Name: "Int", Index: 1}, named("1"), named("Any"), named("tuple", intType()), named("Box", tuple(variable(0))),
		named("Box", repeat(7, intType())...), tuple(repeat(7, intType())...), {Kind: api.KindTuple, Name: "Int"},
		node(api.KindUnion), union(intType()), node(api.KindExists), node(api.KindExists, intType()), exists(variable(0), intType()), node(api.KindExists, anyType(), anyType(), anyType()),
		variable(-1), variable(201), {Kind: api.KindVar, Name: "Int"}, node(api.KindVar, intType()),
		nest(12, intType()), union(repeat(200, intType())...),
	}
}
