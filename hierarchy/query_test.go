package hierarchy_test

import (
	"strconv"
	"testing"

	"telpher/api"
	"telpher/hierarchy"
	"telpher/typeterm"
	. "telpher/typetest"
)

// P3.3: Lookup finds what was declared.
func TestLookup(t *testing.T) {
	h := sample(t)
	for _, d := range append(hierarchy.New().Decls(), sampleDecls()...) {
		if got, ok := h.Lookup(d.Name); !ok || !sameDecl(got, d) {
			t.Errorf("Lookup(%s) = %v, %v", d.Name, got, ok)
		}
	}
	for _, name := range []string{"", "Any", "Never", "tuple", "int", "Nothing", "value", "\xff"} {
		if got, ok := h.Lookup(name); ok || !sameDecl(got, api.Decl{}) {
			t.Errorf("Lookup(%q) = %v, %v", name, got, ok)
		}
	}
}

// P3.3: Knows examines the KindNamed nodes, and only these, of arbitrary terms.
func TestKnows(t *testing.T) {
	h := sample(t)
	for _, x := range []api.Type{
		Any(), Never(), Variable(0), Variable(-5), Tuple(), Int(), Named("Seq", Variable(7)), Named("Box", Named("Box", Named("Unit"))), Named("Map", Any(), Tuple(Int(), Named("Row"))),
		Exists(Named("Seq", Int()), Union(Variable(0), Named("Nil"))),
		// Malformed terms.
		Node(-1), Node(7), Node(99, Int(), Node(98, Bool())), {Name: "Nothing"}, {Kind: api.KindTuple, Name: "Nothing"}, {Kind: api.KindVar, Name: "Nothing"}, {Kind: api.KindNamed, Name: "Int", Index: 3},
		Node(api.KindAny, Int()), Node(api.KindVar, Named("Unit")), Union(), Union(Int()), Node(api.KindExists, Variable(3)), Node(api.KindExists, Int(), Int(), Int()), Named("Box", Tuple(Variable(0))), Tuple(Repeat(9, Int())...),
	} {
		if !h.Knows(x) || !h.Knows(Named("Box", x)) || !h.Knows(NestTuples(20, x)) {
			t.Errorf("Knows(%v) = false", x)
		}
	}
	for _, x := range []api.Type{
		Named("Nothing"), Named(""), Named("Any"), Named("Never"), Named("tuple"), Named("int"), Named("Box"), Named("Box", Int(), Int()), Named("Int", Int()), Named("Pair", Int()),
		// Malformed terms.
		Node(-1, Named("Nothing")), Node(api.KindAny, Named("Nothing")), Node(api.KindVar, Named("Box")), Union(Named("Nothing")), Node(api.KindExists, Named("Nothing")), Node(api.KindExists, Int(), Int(), Named("Nothing")), {Kind: api.KindNamed, Name: "Nothing", Index: 1}, Named("Box", Repeat(7, Int())...),
	} {
		for _, around := range []api.Type{x, Named("Box", x), Tuple(Int(), x), Union(x, Int()), Exists(x, Int()), Exists(Int(), x), NestTuples(20, x), Node(44, Int(), x)} {
			if h.Knows(around) {
				t.Errorf("Knows(%v) = true", around)
			}
		}
	}
}

func expectSupertype(t *testing.T, h *hierarchy.Hierarchy, x api.Type, name string, want api.Type) {
	t.Helper()
	if got, ok := h.Supertype(x, name); !ok || !Same(got, want) {
		t.Errorf("Supertype(%v, %s) = %v, %v; want %v", x, name, got, ok, want)
	}
}

// P3.3: Supertype follows the chain and instantiates each step.
func TestSupertype(t *testing.T) {
	h := sample(t)
	declare(t, h,
		abstract("Turn", 3, Named("Grid", Variable(2), Variable(0), Variable(1))),
		abstract("Bent", 1, Named("Turn", Named("Box", Variable(0)), Bool(), Variable(0))),
		concrete("Leaf", 0, Named("Bent", Named("Unit"))))
	anyBox := Exists(Any(), Named("Box", Variable(0)))
	for _, c := range []struct {
		x    api.Type
		name string
		want api.Type
	}{
		{Int(), "Int", Int()},
		{Named("Row"), "List", Named("List", Int())},
		{Named("Row"), "Seq", Named("Seq", Int())},
		{Named("Vec", Bool()), "Seq", Named("Seq", Box(Bool()))},
		{Named("Vec", Named("Vec", Bool())), "List", Named("List", Box(Named("Vec", Bool())))},
		{Named("Pair", Int(), Bool()), "Map", Named("Map", Bool(), Box(Int()))},
		{Named("Grid", Int(), Bool(), anyBox), "Map", Named("Map", Named("List", anyBox), anyBox)},
		{Named("Leaf"), "Bent", Named("Bent", Named("Unit"))},
		{Named("Leaf"), "Turn", Named("Turn", Box(Named("Unit")), Bool(), Named("Unit"))},
		{Named("Leaf"), "Grid", Named("Grid", Named("Unit"), Box(Named("Unit")), Bool())},
		{Named("Leaf"), "Map", Named("Map", Named("List", Bool()), anyBox)},
		// Free variables are kept.
		{Named("Vec", Variable(3)), "Seq", Named("Seq", Box(Variable(3)))},
		{Named("Pair", Variable(1), Variable(0)), "Map", Named("Map", Variable(0), Box(Variable(1)))},
		{Named("Turn", Variable(5), Box(Variable(4)), Variable(3)), "Grid", Named("Grid", Variable(3), Variable(5), Box(Variable(4)))},
		{Named("Turn", Variable(5), Box(Variable(4)), Variable(3)), "Map", Named("Map", Named("List", Box(Variable(4))), anyBox)},
		// The arguments need not be known.
		{Named("Vec", Named("Nothing")), "List", Named("List", Box(Named("Nothing")))},
		// A term of that name is returned as it is.
		{Named("Nothing", Int()), "Nothing", Named("Nothing", Int())},
		{Named("Vec"), "Vec", Named("Vec")},
		{Named("Int", Variable(0)), "Int", Named("Int", Variable(0))},
		{Named(""), "", Named("")},
		{Named("Any"), "Any", Named("Any")},
		{api.Type{Kind: api.KindNamed, Name: "Vec", Index: -4, Args: []api.Type{Node(9, Variable(-1))}}, "Vec", api.Type{Kind: api.KindNamed, Name: "Vec", Index: -4, Args: []api.Type{Node(9, Variable(-1))}}},
	} {
		expectSupertype(t, h, c.x, c.name, c.want)
	}
}

// P3.3, P0.1 rule 5: where there is no supertype of that name.
func TestNoSupertype(t *testing.T) {
	h := sample(t)
	names := []string{"", "Any", "Never", "tuple", "Int", "Seq", "List", "Map", "Box", "Vec", "Row", "Nothing"}
	terms := append(malformed(), Any(), Never(), Variable(0), Tuple(Int()), Union(Named("Row"), Named("Row")), Exists(Any(), Named("Vec", Variable(0))),
		Named("Vec"), Named("Vec", Int(), Int()), Named("Row", Int()), Named("Nothing"), Named("Nothing", Int()), Named("vec", Int()),
		api.Type{Kind: api.KindTuple, Name: "Vec", Args: Repeat(1, Int())}, api.Type{Name: "Row"}, api.Type{Kind: api.KindVar, Name: "Row"}, api.Type{Kind: 9, Name: "Vec", Args: Repeat(1, Int())})
	for _, x := range terms {
		for _, name := range names {
			if x.Kind == api.KindNamed && x.Name == name {
				continue
			}
			if got, ok := h.Supertype(x, name); ok || !Same(got, Any()) {
				t.Errorf("Supertype(%v, %q) = %v, %v", x, name, got, ok)
			}
		}
	}
	for x, name := range map[string]string{"Row": "Vec", "Unit": "Seq", "Int": "Any", "Bool": "Int"} {
		if got, ok := h.Supertype(Named(x), name); ok || !Same(got, Any()) {
			t.Errorf("Supertype(%s, %q) = %v, %v", x, name, got, ok)
		}
	}
	for _, name := range []string{"Any", "", "Map", "Vec", "Row", "Box", "seq"} {
		if got, ok := h.Supertype(Named("List", Int()), name); ok || !Same(got, Any()) {
			t.Errorf("Supertype(List[Int], %q) = %v, %v", name, got, ok)
		}
	}
}

// P3.3: the last step may lead out of the chain, although the types in between have more nodes than any memory.
func TestLargeSupertypes(t *testing.T) {
	const steps = 50
	h := hierarchy.New()
	declare(t, h, doubling(steps)...)
	last := "D" + strconv.Itoa(steps)
	declare(t, h, concrete("Leaf", 0, Named(last, Int())))
	for _, x := range []api.Type{Named("Leaf"), Named(last, Bool()), Named(last, Variable(2))} {
		expectSupertype(t, h, x, "Root", Named("Root"))
		for _, name := range []string{"Nothing", "Any", "Twin"} {
			if got, ok := h.Supertype(x, name); ok || !Same(got, Any()) {
				t.Errorf("Supertype(%v, %s) = %v, %v", x, name, got, ok)
			}
		}
	}
	twin := Variable(2)
	for i := steps; i >= steps-8; i-- {
		expectSupertype(t, h, Named(last, Variable(2)), "D"+strconv.Itoa(i), Named("D"+strconv.Itoa(i), twin))
		twin = Named("Twin", twin, twin)
	}
	for i := range steps {
		if name := "D" + strconv.Itoa(i); !h.IsAncestor(name, "Leaf") || !h.IsAncestor(name, last) || h.IsAncestor(last, name) {
			t.Errorf("IsAncestor of %s and %s", name, last)
		}
	}
	if !h.IsAncestor("Root", "Leaf") || !h.IsAncestor("Any", last) || h.IsAncestor("Twin", last) {
		t.Error("IsAncestor at the end of a chain")
	}
}

// P3.3: ancestors are the type itself, its supertypes and Any.
func TestIsAncestor(t *testing.T) {
	h := sample(t)
	for _, c := range []struct {
		of        string
		ancestors []string
	}{
		{"Int", []string{"Int", "Any"}}, {"Nil", []string{"Nil", "Any"}}, {"Seq", []string{"Seq", "Any"}}, {"List", []string{"List", "Seq", "Any"}}, {"Vec", []string{"Vec", "List", "Seq", "Any"}}, {"Row", []string{"Row", "List", "Seq", "Any"}},
		{"Map", []string{"Map", "Any"}}, {"Pair", []string{"Pair", "Map", "Any"}}, {"Grid", []string{"Grid", "Map", "Any"}}, {"Box", []string{"Box", "Any"}}, {"Unit", []string{"Unit", "Any"}},
		{"Any", nil}, {"Nothing", nil}, {"", nil}, {"tuple", nil}, {"Never", nil}, {"vec", nil}, {"head", nil},
	} {
		want := map[string]bool{}
		for _, name := range c.ancestors {
			want[name] = true
		}
		for _, name := range []string{"Any", "Never", "", "tuple", "Nothing", "vec", "head", "Int", "Nil", "Seq", "List", "Vec", "Row", "Map", "Pair", "Grid", "Box", "Unit"} {
			if h.IsAncestor(name, c.of) != want[name] {
				t.Errorf("IsAncestor(%q, %q) = %v", name, c.of, !want[name])
			}
		}
	}
}

// expectFields expects these fields of x, from Fields and one by one from Field.
func expectFields(t *testing.T, h *hierarchy.Hierarchy, x api.Type, want ...api.Field) {
	t.Helper()
	if got, ok := h.Fields(x); !ok || !sameFields(got, want) {
		t.Errorf("Fields(%v) = %v, %v; want %v", x, got, ok, want)
	}
	for i, f := range want {
		if at, got, ok := h.Field(x, f.Name); !ok || at != i || !Same(got, f.Type) {
			t.Errorf("Field(%v, %s) = %d, %v, %v; want %v", x, f.Name, at, got, ok, f.Type)
		}
	}
	expectNoField(t, h, x, "", "Nothing", "Head", "VALUE", "Int", "he", "head ", "Any")
}

func expectNoField(t *testing.T, h *hierarchy.Hierarchy, x api.Type, names ...string) {
	t.Helper()
	for _, name := range names {
		if at, got, ok := h.Field(x, name); ok || at != 0 || !Same(got, Any()) {
			t.Errorf("Field(%v, %q) = %d, %v, %v", x, name, at, got, ok)
		}
	}
}

// P3.3: the types of fields are instantiated with the arguments.
func TestFields(t *testing.T) {
	h := sample(t)
	next := field("next", Union(Named("Nil"), Named("Pair", Int(), Any())))
	anyBox := Exists(Any(), Named("Box", Variable(0)))
	expectFields(t, h, Int())
	expectFields(t, h, Named("Unit"))
	expectFields(t, h, Named("Row"))
	expectFields(t, h, Named("Box", Named("Box", Int())), field("value", Named("Box", Int())))
	expectFields(t, h, Named("Vec", anyBox), field("head", anyBox), field("len", Int()))
	expectFields(t, h, Named("Pair", Int(), Bool()), field("key", Named("Box", Bool())), field("value", Int()), next)
	expectFields(t, h, Named("Pair", Named("Box", Variable(4)), Variable(0)), field("key", Named("Box", Variable(0))), field("value", Named("Box", Variable(4))), next)
	expectFields(t, h, Named("Box", Named("Nothing")), field("value", Named("Nothing")))
	// A malformed term that is a KindNamed node with the right number of arguments has fields too.
	expectFields(t, h, api.Type{Kind: api.KindNamed, Name: "Box", Index: 5, Args: []api.Type{Node(8, Variable(-1))}}, field("value", Node(8, Variable(-1))))
	declare(t, h, concrete("Ring", 1, Any(), field("next", Named("Ring", Named("Ring", Variable(0)))), field("none", Exists(Int(), Tuple(Variable(0))))))
	expectFields(t, h, Named("Ring", Int()), field("next", Named("Ring", Named("Ring", Int()))), field("none", Exists(Int(), Tuple(Variable(0)))))
}

// P3.3, P0.1 rule 5: which terms have no fields.
func TestNoFields(t *testing.T) {
	h := sample(t)
	terms := []api.Type{
		Any(), Never(), Variable(0), Tuple(), Tuple(Int()), Union(Named("Unit"), Named("Row")), Exists(Any(), Named("Box", Variable(0))),
		Named("Seq", Int()), Named("Map", Int(), Int()), Named("Grid", Int(), Int(), Int()),
		Named("Vec"), Named("Vec", Int(), Int()), Named("Int", Int()), Named("Pair", Int()), Named("Nothing"), Named("Nothing", Int()), Named(""), Named("Any"),
		{Name: "Unit"}, {Kind: api.KindTuple, Name: "Box", Args: Repeat(1, Int())}, {Kind: api.KindVar, Name: "Int"}, {Kind: 9, Name: "Unit"}, {Kind: -2, Name: "Unit"},
	}
	for _, x := range malformed() {
		if x.Kind != api.KindNamed {
			terms = append(terms, x)
		}
	}
	for _, x := range terms {
		if got, ok := h.Fields(x); ok || len(got) != 0 {
			t.Errorf("Fields(%v) = %v, %v", x, got, ok)
		}
		expectNoField(t, h, x, "", "value", "head", "len", "key", "next")
	}
}

// P3.3, P0.1 rule 9: arguments may be as deep as a term may be.
func TestDeepArguments(t *testing.T) {
	h := sample(t)
	deep := NestTuples(1<<16-4, Variable(1))
	if got, ok := h.Supertype(Named("Vec", deep), "Seq"); !ok || got.Name != "Seq" || typeterm.Depth(got) != 1<<16-1 {
		t.Error("Supertype of a type with a deep argument")
	}
	if at, got, ok := h.Field(Named("Vec", deep), "head"); !ok || at != 0 || typeterm.Depth(got) != 1<<16-3 {
		t.Error("Field of a type with a deep argument")
	}
	if !h.Knows(deep) || h.Knows(Tuple(deep, Named("Nothing"))) || h.Knows(NestTuples(1<<16-3, Named("Nothing"))) {
		t.Error("Knows of a deep term")
	}
	if h.Declare(abstract("A", 2, Named("Seq", deep))) != api.ErrInvalid || h.Declare(concrete("A", 2, Any(), field("x", deep))) != api.ErrInvalid {
		t.Error("Declare with a deep term")
	}
}

// answers returns all that h tells about known terms, names of types and names of fields.
func answers(h *hierarchy.Hierarchy, terms []api.Type, names, fieldNames []string) []string {
	var all []string
	for _, x := range terms {
		fields, ok := h.Fields(x)
		all = append(all, show(fields), strconv.FormatBool(ok), strconv.FormatBool(h.Knows(x)))
		for _, name := range names {
			super, ok := h.Supertype(x, name)
			all = append(all, show(super), strconv.FormatBool(ok))
		}
		for _, name := range fieldNames {
			at, fieldType, ok := h.Field(x, name)
			all = append(all, strconv.Itoa(at), show(fieldType), strconv.FormatBool(ok))
		}
	}
	for _, name := range names {
		for _, of := range names {
			all = append(all, strconv.FormatBool(h.IsAncestor(name, of)))
		}
		all = append(all, h.Fingerprint(name))
	}
	return all
}

// P3.5: later declarations do not change what is known.
func TestMonotonicity(t *testing.T) {
	h := sample(t)
	terms := []api.Type{Int(), Named("Unit"), Named("Row"), Named("Vec", Named("Box", Variable(0))), Named("Pair", Int(), Named("Row")), Named("Grid", Int(), Int(), Variable(9)), Tuple(Named("Seq", Int()), Never())}
	names := []string{"Int", "Nil", "Seq", "List", "Map", "Box", "Vec", "Row", "Pair", "Grid", "Unit", "Any"}
	fieldNames := []string{"key", "value", "next", "head", "len", "none"}
	before := answers(h, terms, names, fieldNames)
	for i := range api.MaxDecls {
		h.Declare(concrete("C"+strconv.Itoa(i), i%5, Named("Seq", Int()), field("value", Named("Row"))))
		h.Declare(abstract("head", 0, Named("Seq", Named("Vec", Int()))))
		h.Declare(abstract("Vec", 0, Any()))
		for j, answer := range answers(h, terms, names, fieldNames) {
			if answer != before[j] {
				t.Fatalf("after declaration %d, answer %d is %s; it was %s", i, j, answer, before[j])
			}
		}
	}
	if len(h.Decls()) != api.MaxDecls {
		t.Errorf("%d declarations", len(h.Decls()))
	}
}
