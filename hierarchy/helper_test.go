package hierarchy_test

import (
	"fmt"
	"slices"
	"strconv"
	"testing"

	"telpher/api"
	"telpher/hierarchy"
	. "telpher/typetest"
)

func field(name string, t api.Type) api.Field { return api.Field{Name: name, Type: t} }

// manyFields returns so many fields f0, f1 and so on.
func manyFields(count int) []api.Field {
	var fields []api.Field
	for i := range count {
		fields = append(fields, field("f"+strconv.Itoa(i), Int()))
	}
	return fields
}

func abstract(name string, arity int, super api.Type) api.Decl {
	return api.Decl{Name: name, Arity: arity, Super: super}
}

func concrete(name string, arity int, super api.Type, fields ...api.Field) api.Decl {
	return api.Decl{Name: name, Arity: arity, Super: super, Concrete: true, Fields: fields}
}

// sampleDecls returns a tree of declarations: Seq above List above Vec and Row, Map above Pair and Grid, and Box and Unit on their own.
func sampleDecls() []api.Decl {
	return []api.Decl{
		abstract("Seq", 1, Any()),
		abstract("List", 1, Named("Seq", Variable(0))),
		abstract("Map", 2, Any()),
		concrete("Box", 1, Any(), field("value", Variable(0))),
		concrete("Vec", 1, Named("List", Named("Box", Variable(0))), field("head", Variable(0)), field("len", Int())),
		concrete("Row", 0, Named("List", Int())),
		concrete("Pair", 2, Named("Map", Variable(1), Named("Box", Variable(0))), field("key", Named("Box", Variable(1))), field("value", Variable(0)), field("next", Union(Named("Nil"), Named("Pair", Int(), Any())))),
		abstract("Grid", 3, Named("Map", Named("List", Variable(2)), Exists(Any(), Named("Box", Variable(0))))),
		concrete("Unit", 0, Any()),
	}
}

func declare(t *testing.T, h *hierarchy.Hierarchy, list ...api.Decl) {
	t.Helper()
	for _, d := range list {
		if got := h.Declare(d); got != api.OK {
			t.Fatalf("Declare(%v) = %d", d, got)
		}
	}
}

func sample(t *testing.T) *hierarchy.Hierarchy {
	t.Helper()
	h := hierarchy.New()
	declare(t, h, sampleDecls()...)
	return h
}

// doubling returns declarations of Root and D0 to D<steps>, where the argument of each supertype is twice as large as the one before.
func doubling(steps int) []api.Decl {
	list := []api.Decl{abstract("Root", 0, Any()), abstract("Twin", 2, Any()), abstract("D0", 1, Named("Root"))}
	for i := range steps {
		list = append(list, abstract("D"+strconv.Itoa(i+1), 1, Named("D"+strconv.Itoa(i), Named("Twin", Variable(0), Variable(0)))))
	}
	return list
}

func sameFields(a, b []api.Field) bool {
	return slices.EqualFunc(a, b, func(f, g api.Field) bool { return f.Name == g.Name && Same(f.Type, g.Type) })
}

func sameDecl(a, b api.Decl) bool {
	return a.Name == b.Name && a.Arity == b.Arity && a.Concrete == b.Concrete && Same(a.Super, b.Super) && sameFields(a.Fields, b.Fields)
}

// show writes a value with all its fields, nil and empty slices told apart.
func show(x any) string { return fmt.Sprintf("%#v", x) }

// scribbleFields overwrites all fields and the memory that their types refer to.
func scribbleFields(fields []api.Field) {
	for _, f := range fields {
		Scribble(f.Type)
	}
	room := fields[:cap(fields)]
	for i := range room {
		room[i] = field("scribble", Never())
	}
}

// scribble overwrites all memory that d refers to.
func scribble(d api.Decl) {
	Scribble(d.Super)
	scribbleFields(d.Fields)
}

// malformed returns terms that are not valid.
func malformed() []api.Type {
	return []api.Type{
		Node(-1), Node(7), Node(9, Int()), {Name: "Int"}, {Index: 1}, Node(api.KindAny, Int()), Node(api.KindNever, Int()),
		{Kind: api.KindNamed}, {Kind: api.KindNamed, Name: "Int", Index: 1}, Named("1"), Named("Any"), Named("tuple", Int()), Named("Box", Tuple(Variable(0))),
		Named("Box", Repeat(7, Int())...), Tuple(Repeat(7, Int())...), {Kind: api.KindTuple, Name: "Int"},
		Node(api.KindUnion), Union(Int()), Node(api.KindExists), Node(api.KindExists, Int()), Exists(Variable(0), Int()), Node(api.KindExists, Any(), Any(), Any()),
		Variable(-1), Variable(201), {Kind: api.KindVar, Name: "Int"}, Node(api.KindVar, Int()),
		NestTuples(12, Int()), Union(Repeat(200, Int())...),
	}
}
