package hierarchy_test

import (
	"strconv"
	"testing"

	"telpher/api"
	"telpher/hierarchy"
	"telpher/typeterm"
)

// P3.3: Lookup finds what was declared.
func TestLookup(t *testing.T) {
	h := sample(t)
	for _, d := range append(hierarchy.New().Decls(), sampleDecls()...) {
		if got, ok := h.Lookup(d.Name); !ok || !sameDecl(got, d) {
			t.Errorf("Lookup(%s) = %v, %v", d.Name, got, ok)
		}
	}
	for _, name := range []string{"", "Any", "Never", "tuple", "int", "Nothing", "value", "\xff"} {
		if got, ok := h.Lookup(name); ok || !sameDecl(got, api.Decl{}) {
			t.Errorf("Lookup(%q) = %v, %v", name, got, ok)
		}
	}
}

// P3.3: Knows examines the KindNamed nodes, and only these, of arbitrary terms.
func TestKnows(t *testing.T) {
	h := sample(t)
	for _, x := range []api.Type{
		anyType(), never(), variable(0), variable(-5), tuple(), intType(), named("Seq", variable(7)), named("Box", named("Box", named("Unit"))), named("Map", anyType(), tuple(intType(), named("Row"))),
		exists(named("Seq", intType()), union(variable(0), named("Nil"))),
		// Malformed terms.
		node(-1), node(7), node(99, intType(), node(98, boolType())), {Name: "Nothing"}, {Kind: api.KindTuple, Name: "Nothing"}, {Kind: api.KindVar, Name: "Nothing"}, {Kind: api.KindNamed, Name: "Int", Index: 3},
		node(api.KindAny, intType()), node(api.KindVar, named("Unit")), union(), union(intType()), node(api.KindExists, variable(3)), node(api.KindExists, intType(), intType(), intType()), named("Box", tuple(variable(0))), tuple(repeat(9, intType())...),
	} {
		if !h.Knows(x) || !h.Knows(named("Box", x)) || !h.Knows(nest(20, x)) {
			t.Errorf("Knows(%v) = false", x)
		}
	}
	for _, x := range []api.Type{
		named("Nothing"), named(""), named("Any"), named("Never"), named("tuple"), named("int"), named("Box"), named("Box", intType(), intType()), named("Int", intType()), named("Pair", intType()),
		// Malformed terms.
		node(-1, named("Nothing")), node(api.KindAny, named("Nothing")), node(api.KindVar, named("Box")), union(named("Nothing")), node(api.KindExists, named("Nothing")), node(api.KindExists, intType(), intType(), named("Nothing")), {Kind: api.KindNamed, Name: "Nothing", Index: 1}, named("Box", repeat(7, intType())...),
	} {
		for _, around := range []api.Type{x, named("Box", x), tuple(intType(), x), union(x, intType()), exists(x, intType()), exists(intType(), x), nest(20, x), node(44, intType(), x)} {
			if h.Knows(around) {
				t.Errorf("Knows(%v) = true", around)
			}
		}
	}
}

func expectSupertype(t *testing.T, h *hierarchy.Hierarchy, x api.Type, name string, want api.Type) {
	t.Helper()
	if got, ok := h.Supertype(x, name); !ok || !same(got, want) {
		t.Errorf("Supertype(%v, %s) = %v, %v; want %v", x, name, got, ok, want)
	}
}

// P3.3: Supertype follows the chain and instantiates each step.
func TestSupertype(t *testing.T) {
	h := sample(t)
	declare(t, h,
		abstract("Turn", 3, named("Grid", variable(2), variable(0), variable(1))),
		abstract("Bent", 1, named("Turn", named("Box", variable(0)), boolType(), variable(0))),
		concrete("Leaf", 0, named("Bent", named("Unit"))))
	anyBox := exists(anyType(), named("Box", variable(0)))
	box := func(x api.Type) api.Type { return named("Box", x) }
	for _, c := range []struct {
		x    api.Type
		name string
		want api.Type
	}{
		{intType(), "Int", intType()},
		{named("Row"), "List", named("List", intType())},
		{named("Row"), "Seq", named("Seq", intType())},
		{named("Vec", boolType()), "Seq", named("Seq", box(boolType()))},
		{named("Vec", named("Vec", boolType())), "List", named("List", box(named("Vec", boolType())))},
		{named("Pair", intType(), boolType()), "Map", named("Map", boolType(), box(intType()))},
		{named("Grid", intType(), boolType(), anyBox), "Map", named("Map", named("List", anyBox), anyBox)},
		{named("Leaf"), "Bent", named("Bent", named("Unit"))},
		{named("Leaf"), "Turn", named("Turn", box(named("Unit")), boolType(), named("Unit"))},
		{named("Leaf"), "Grid", named("Grid", named("Unit"), box(named("Unit")), boolType())},
		{named("Leaf"), "Map", named("Map", named("List", boolType()), anyBox)},
		// Free variables are kept.
		{named("Vec", variable(3)), "Seq", named("Seq", box(variable(3)))},
		{named("Pair", variable(1), variable(0)), "Map", named("Map", variable(0), box(variable(1)))},
		{named("Turn", variable(5), box(variable(4)), variable(3)), "Grid", named("Grid", variable(3), variable(5), box(variable(4)))},
		{named("Turn", variable(5), box(variable(4)), variable(3)), "Map", named("Map", named("List", box(variable(4))), anyBox)},
		// The arguments need not be known.
		{named("Vec", named("Nothing")), "List", named("List", box(named("Nothing")))},
		// A term of that name is returned as it is.
		{named("Nothing", intType()), "Nothing", named("Nothing", intType())},
		{named("Vec"), "Vec", named("Vec")},
		{named("Int", variable(0)), "Int", named("Int", variable(0))},
		{named(""), "", named("")},
		{named("Any"), "Any", named("Any")},
		{api.Type{Kind: api.KindNamed, Name: "Vec", Index: -4, Args: []api.Type{node(9, variable(-1))}}, "Vec", api.Type{Kind: api.KindNamed, Name: "Vec", Index: -4, Args: []api.Type{node(9, variable(-1))}}},
	} {
		expectSupertype(t, h, c.x, c.name, c.want)
	}
}

// P3.3, P0.1 rule 5: where there is no supertype of that name.
func TestNoSupertype(t *testing.T) {
	h := sample(t)
	names := []string{"", "Any", "Never", "tuple", "Int", "Seq", "List", "Map", "Box", "Vec", "Row", "Nothing"}
	terms := append(malformed(), anyType(), never(), variable(0), tuple(intType()), union(named("Row"), named("Row")), exists(anyType(), named("Vec", variable(0))),
		named("Vec"), named("Vec", intType(), intType()), named("Row", intType()), named("Nothing"), named("Nothing", intType()), named("vec", intType()),
		api.Type{Kind: api.KindTuple, Name: "Vec", Args: repeat(1, intType())}, api.Type{Name: "Row"}, api.Type{Kind: api.KindVar, Name: "Row"}, api.Type{Kind: 9, Name: "Vec", Args: repeat(1, intType())})
	for _, x := range terms {
		for _, name := range names {
			if x.Kind == api.KindNamed && x.Name == name {
				continue
			}
			if got, ok := h.Supertype(x, name); ok || !same(got, anyType()) {
				t.Errorf("Supertype(%v, %q) = %v, %v", x, name, got, ok)
			}
		}
	}
	for x, name := range map[string]string{"Row": "Vec", "Unit": "Seq", "Int": "Any", "Bool": "Int"} {
		if got, ok := h.Supertype(named(x), name); ok || !same(got, anyType()) {
			t.Errorf("Supertype(%s, %q) = %v, %v", x, name, got, ok)
		}
	}
	for _, name := range []string{"Any", "", "Map", "Vec", "Row", "Box", "seq"} {
		if got, ok := h.Supertype(named("List", intType()), name); ok || !same(got, anyType()) {
			t.Errorf("Supertype(List[Int], %q) = %v, %v", name, got, ok)
		}
	}
}

// P3.3: the last step may lead out of the chain, although the types in between have more nodes than any memory.
func TestLargeSupertypes(t *testing.T) {
	const steps = 50
	h := hierarchy.New()
	declare(t, h, doubling(steps)...)
	last := "D" + strconv.Itoa(steps)
	declare(t, h, concrete("Leaf", 0, named(last, intType())))
	for _, x := range []api.Type{named("Leaf"), named(last, boolType()), named(last, variable(2))} {
		expectSupertype(t, h, x, "Root", named("Root"))
		for _, name := range []string{"Nothing", "Any", "Twin"} {
			if got, ok := h.Supertype(x, name); ok || !same(got, anyType()) {
				t.Errorf("Supertype(%v, %s) = %v, %v", x, name, got, ok)
			}
		}
	}
	twin := variable(2)
	for i := steps; i >= steps-8; i-- {
		expectSupertype(t, h, named(last, variable(2)), "D"+strconv.Itoa(i), named("D"+strconv.Itoa(i), twin))
		twin = named("Twin", twin, twin)
	}
	for i := range steps {
		if name := "D" + strconv.Itoa(i); !h.IsAncestor(name, "Leaf") || !h.IsAncestor(name, last) || h.IsAncestor(last, name) {
			t.Errorf("IsAncestor of %s and %s", name, last)
		}
	}
	if !h.IsAncestor("Root", "Leaf") || !h.IsAncestor("Any", last) || h.IsAncestor("Twin", last) {
		t.Error("IsAncestor at the end of a chain")
	}
}

// P3.3: ancestors are the type itself, its supertypes and Any.
func TestIsAncestor(t *testing.T) {
	h := sample(t)
	for _, c := range []struct {
		of        string
		ancestors []string
	}{
		{"Int", []string{"Int", "Any"}}, {"Nil", []string{"Nil", "Any"}}, {"Seq", []string{"Seq", "Any"}}, {"List", []string{"List", "Seq", "Any"}}, {"Vec", []string{"Vec", "List", "Seq", "Any"}}, {"Row", []string{"Row", "List", "Seq", "Any"}},
		{"Map", []string{"Map", "Any"}}, {"Pair", []string{"Pair", "Map", "Any"}}, {"Grid", []string{"Grid", "Map", "Any"}}, {"Box", []string{"Box", "Any"}}, {"Unit", []string{"Unit", "Any"}},
		{"Any", nil}, {"Nothing", nil}, {"", nil}, {"tuple", nil}, {"Never", nil}, {"vec", nil}, {"head", nil},
	} {
		want := map[string]bool{}
		for _, name := range c.ancestors {
			want[name] = true
		}
		for _, name := range []string{"Any", "Never", "", "tuple", "Nothing", "vec", "head", "Int", "Nil", "Seq", "List", "Vec", "Row", "Map", "Pair", "Grid", "Box", "Unit"} {
			if h.IsAncestor(name, c.of) != want[name] {
				t.Errorf("IsAncestor(%q, %q) = %v", name, c.of, !want[name])
			}
		}
	}
}

// expectFields expects these fields of x, from Fields and one by one from Field.
func expectFields(t *testing.T, h *hierarchy.Hierarchy, x api.Type, want ...api.Field) {
	t.Helper()
	if got, ok := h.Fields(x); !ok || !sameFields(got, want) {
		t.Errorf("Fields(%v) = %v, %v; want %v", x, got, ok, want)
	}
	for i, f := range want {
		if at, got, ok := h.Field(x, f.Name); !ok || at != i || !same(got, f.Type) {
			t.Errorf("Field(%v, %s) = %d, %v, %v; want %v", x, f.Name, at, got, ok, f.Type)
		}
	}
	expectNoField(t, h, x, "", "Nothing", "Head", "VALUE", "Int", "he", "head ", "Any")
}

func expectNoField(t *testing.T, h *hierarchy.Hierarchy, x api.Type, names ...string) {
	t.Helper()
	for _, name := range names {
		if at, got, ok := h.Field(x, name); ok || at != 0 || !same(got, anyType()) {
			t.Errorf("Field(%v, %q) = %d, %v, %v", x, name, at, got, ok)
		}
	}
}

// P3.3: the types of fields are instantiated with the arguments.
func TestFields(t *testing.T) {
	h := sample(t)
	next := field("next", union(named("Nil"), named("Pair", intType(), anyType())))
	anyBox := exists(anyType(), named("Box", variable(0)))
	expectFields(t, h, intType())
	expectFields(t, h, named("Unit"))
	expectFields(t, h, named("Row"))
	expectFields(t, h, named("Box", named("Box", intType())), field("value", named("Box", intType())))
	expectFields(t, h, named("Vec", anyBox), field("head", anyBox), field("len", intType()))
	expectFields(t, h, named("Pair", intType(), boolType()), field("key", named("Box", boolType())), field("value", intType()), next)
	expectFields(t, h, named("Pair", named("Box", variable(4)), variable(0)), field("key", named("Box", variable(0))), field("value", named("Box", variable(4))), next)
	expectFields(t, h, named("Box", named("Nothing")), field("value", named("Nothing")))
	// A malformed term that is a KindNamed node with the right number of arguments has fields too.
	expectFields(t, h, api.Type{Kind: api.KindNamed, Name: "Box", Index: 5, Args: []api.Type{node(8, variable(-1))}}, field("value", node(8, variable(-1))))
	declare(t, h, concrete("Ring", 1, anyType(), field("next", named("Ring", named("Ring", variable(0)))), field("none", exists(intType(), tuple(variable(0))))))
	expectFields(t, h, named("Ring", intType()), field("next", named("Ring", named("Ring", intType()))), field("none", exists(intType(), tuple(variable(0)))))
}

// P3.3, P0.1 rule 5: which terms have no fields.
func TestNoFields(t *testing.T) {
	h := sample(t)
	terms := []api.Type{
		anyType(), never(), variable(0), tuple(), tuple(intType()), union(named("Unit"), named("Row")), exists(anyType(), named("Box", variable(0))),
		named("Seq", intType()), named("Map", intType(), intType()), named("Grid", intType(), intType(), intType()),
		named("Vec"), named("Vec", intType(), intType()), named("Int", intType()), named("Pair", intType()), named("Nothing"), named("Nothing", intType()), named(""), named("Any"),
		{Name: "Unit"}, {Kind: api.KindTuple, Name: "Box", Args: repeat(1, intType())}, {Kind: api.KindVar, Name: "Int"}, {Kind: 9, Name: "Unit"}, {Kind: -2, Name: "Unit"},
	}
	for _, x := range malformed() {
		if x.Kind != api.KindNamed {
			terms = append(terms, x)
		}
	}
	for _, x := range terms {
		if got, ok := h.Fields(x); ok || len(got) != 0 {
			t.Errorf("Fields(%v) = %v, %v", x, got, ok)
		}
		expectNoField(t, h, x, "", "value", "head", "len", "key", "next")
	}
}

// P3.3, P0.1 rule 9: arguments may be as deep as a term may be.
func TestDeepArguments(t *testing.T) {
	h := sample(t)
	deep := nest(1<<16-4, variable(1))
	if got, ok := h.Supertype(named("Vec", deep), "Seq"); !ok || got.Name != "Seq" || typeterm.Depth(got) != 1<<16-1 {
		t.Error("Supertype of a type with a deep argument")
	}
	if at, got, ok := h.Field(named("Vec", deep), "head"); !ok || at != 0 || typeterm.Depth(got) != 1<<16-3 {
		t.Error("Field of a type with a deep argument")
	}
	if !h.Knows(deep) || h.Knows(tuple(deep, named("Nothing"))) || h.Knows(nest(1<<16-3, named("Nothing"))) {
		t.Error("Knows of a deep term")
	}
	if h.Declare(abstract("A", 2, named("Seq", deep))) != api.ErrInvalid || h.Declare(concrete("A", 2, anyType(), field("x", deep))) != api.ErrInvalid {
		t.Error("Declare with a deep term")
	}
}

// answers returns all that h tells about known terms, names of types and names of fields.
func answers(h *hierarchy.Hierarchy, terms []api.Type, names, fieldNames []string) []string {
	var all []string
	for _, x := range terms {
		fields, ok := h.Fields(x)
		all = append(all, show(fields), strconv.FormatBool(ok), strconv.FormatBool(h.Knows(x)))
		for _, name := range names {
			super, ok := h.Supertype(x, name)
			all = append(all, show(super), strconv.FormatBool(ok))
		}
		for _, name := range fieldNames {
			at, fieldType, ok := h.Field(x, name)
			all = append(all, strconv.Itoa(at), show(fieldType), strconv.FormatBool(ok))
		}
	}
	for _, name := range names {
		for _, of := range names {
			all = append(all, strconv.FormatBool(h.IsAncestor(name, of)))
		}
		all = append(all, h.Fingerprint(name))
	}
	return all
}

// P3.5: later declarations do not change what is known.
func TestMonotonicity(t *testing.T) {
	h := sample(t)
	terms := []api.Type{intType(), named("Unit"), named("Row"), named("Vec", named("Box", variable(0))), named("Pair", intType(), named("Row")), named("Grid", intType(), intType(), variable(9)), tuple(named("Seq", intType()), never())}
	names := []string{"Int", "Nil", "Seq", "List", "Map", "Box", "Vec", "Row", "Pair", "Grid", "Unit", "Any"}
	fieldNames := []string{"key", "value", "next", "head", "len", "none"}
	before := answers(h, terms, names, fieldNames)
	for i := range api.MaxDecls {
		h.Declare(concrete("C"+strconv.Itoa(i), i%5, named("Seq", intType()), field("value", named("Row"))))
		h.Declare(abstract("head", 0, named("Seq", named("Vec", intType()))))
		h.Declare(abstract("Vec", 0, anyType()))
		for j, answer := range answers(h, terms, names, fieldNames) {
			if answer != before[j] {
				t.Fatalf("after declaration %d, answer %d is %s; it was %s", i, j, answer, before[j])
			}
		}
	}
	if len(h.Decls()) != api.MaxDecls {
		t.Errorf("%d declarations", len(h.Decls()))
	}
}
