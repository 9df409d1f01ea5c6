package hierarchy_test

import (
	"math"
	"slices"
	"strconv"
	"strings"
	"testing"

	"telpher/api"
	"telpher/hierarchy"
)

// P3.1: the built-in declarations.
func TestNew(t *testing.T) {
	want := []api.Decl{concrete("Int", 0, anyType()), concrete("Bool", 0, anyType()), concrete("String", 0, anyType()), concrete("Nil", 0, anyType())}
	h := hierarchy.New()
	if got := h.Decls(); !slices.EqualFunc(got, want, sameDecl) {
		t.Errorf("Decls of a new hierarchy: %v", got)
	}
	declare(t, h, abstract("A", 0, anyType()))
	if got := hierarchy.New().Decls(); !slices.EqualFunc(got, want, sameDecl) {
		t.Errorf("a new hierarchy has the declarations of another one: %v", got)
	}
}

// expectDeclare expects that Declare returns want, and that only a new declaration changes h.
func expectDeclare(t *testing.T, h *hierarchy.Hierarchy, d api.Decl, want api.Errno) {
	t.Helper()
	before := h.Decls()
	got := h.Declare(d)
	if got != want {
		t.Errorf("Declare(%.300v) = %d; want %d", d, got, want)
	}
	after := before
	if isNew := !slices.ContainsFunc(before, func(known api.Decl) bool { return known.Name == d.Name }); got == api.OK && isNew {
		after = append(slices.Clone(before), d)
	}
	if !slices.EqualFunc(h.Decls(), after, sameDecl) {
		t.Errorf("after Declare(%.300v) = %d: %v", d, got, h.Decls())
	}
}

// P3.1, P3.2: declarations that are accepted, each one in a hierarchy of its own.
func TestDeclare(t *testing.T) {
	longest := "X" + strings.Repeat("9", api.MaxWord-1)
	for _, d := range []api.Decl{
		abstract("a", 0, anyType()), abstract("any", 0, anyType()), abstract("Tuple", 0, anyType()), abstract("A_b_9", 0, anyType()), abstract(longest, 0, anyType()),
		concrete("A", 0, anyType()), concrete("A", 3, anyType()),
		abstract("A", 0, named("List", union(intType(), boolType()))), abstract("A", 0, named("List", exists(anyType(), tuple(variable(0))))),
		abstract("A", 2, named("Map", variable(1), variable(1))), concrete("A", 1, named("Seq", named("Box", variable(0)))), concrete("A", 0, named("Seq", named("Unit"))),
		concrete("A", 0, anyType(), field("x", anyType()), field("X", never()), field("Any", tuple()), field("tuple", intType()), field(longest, exists(named("Seq", intType()), variable(0)))),
		concrete("A", 2, anyType(), field("x", variable(1)), field("y", variable(0)), field("z", variable(1))),
		// A field type may refer to the declaration itself.
		concrete("A", 0, anyType(), field("next", named("A"))),
		concrete("A", 2, named("Seq", intType()), field("x", named("A", variable(1), named("A", variable(0), intType()))), field("y", union(named("Nil"), tuple(named("A", anyType(), never())))), field("z", exists(anyType(), named("A", variable(0), variable(0))))),
	} {
		expectDeclare(t, sample(t), d, api.OK)
	}
}

// P3.2: every kind of invalid declaration.
func TestInvalidDeclarations(t *testing.T) {
	h := sample(t)
	for _, name := range []string{"", "1", "_a", "a-b", "a b", " a", "a\n", "\x00", "\u00e9", "(A)", strings.Repeat("x", api.MaxWord+1), strings.Repeat("x", 1<<16), "Any", "Never", "tuple", "union", "exists"} {
		expectDeclare(t, h, abstract(name, 0, anyType()), api.ErrInvalid)
		expectDeclare(t, h, concrete(name, 1, named("Seq", variable(0)), field("x", intType())), api.ErrInvalid)
	}
	for _, name := range []string{"", "1", "_a", "a-b", "a ", "\u00e9", strings.Repeat("x", api.MaxWord+1)} {
		expectDeclare(t, h, concrete("A", 0, anyType(), field(name, intType())), api.ErrInvalid)
		expectDeclare(t, h, concrete("A", 0, anyType(), field("ok", intType()), field(name, intType())), api.ErrInvalid)
	}
	for _, d := range []api.Decl{
		abstract("A", -1, anyType()), abstract("A", math.MinInt, anyType()), concrete("A", -1, anyType()),
		// Super is neither Any nor a nominal type.
		abstract("A", 0, never()), abstract("A", 0, tuple()), abstract("A", 0, tuple(intType())), abstract("A", 0, union(named("Unit"), named("Row"))), abstract("A", 1, variable(0)), abstract("A", 0, exists(anyType(), named("Seq", variable(0)))),
		// Super has a variable that is no parameter, or that lies in a term that is not closed.
		abstract("A", 0, named("Seq", variable(0))), abstract("A", 2, named("Map", variable(1), named("Box", variable(2)))), abstract("A", 3, named("Seq", variable(200))), abstract("A", 1, named("Seq", tuple(variable(0)))),
		// So has a field type.
		concrete("A", 0, anyType(), field("x", variable(0))), concrete("A", 2, anyType(), field("x", variable(1)), field("y", variable(2))), concrete("A", 1, anyType(), field("x", named("Box", variable(1)))),
		concrete("A", 1, anyType(), field("x", tuple(variable(0)))), concrete("A", 1, anyType(), field("x", union(variable(0), intType()))), concrete("A", 1, anyType(), field("x", exists(anyType(), variable(1)))), concrete("A", 1, anyType(), field("x", tuple(named("Box", variable(0))))),
		// Names of fields.
		concrete("A", 0, anyType(), field("x", intType()), field("x", intType())), concrete("A", 0, anyType(), field("x", intType()), field("y", intType()), field("x", boolType())),
		// Fields of abstract types.
		{Name: "A", Fields: manyFields(1)}, {Name: "A", Arity: 1, Super: named("Seq", variable(0)), Fields: []api.Field{field("x", variable(0))}},
	} {
		expectDeclare(t, h, d, api.ErrInvalid)
	}
	for _, x := range malformed() {
		expectDeclare(t, h, abstract("A", 6, x), api.ErrInvalid)
		expectDeclare(t, h, abstract("A", 6, named("Seq", x)), api.ErrInvalid)
		expectDeclare(t, h, concrete("A", 6, anyType(), field("x", x)), api.ErrInvalid)
		expectDeclare(t, h, concrete("A", 6, anyType(), field("x", intType()), field("y", tuple(x))), api.ErrInvalid)
	}
}

// P3.2: MaxArgs limits the parameters and the fields, exactly.
func TestMaxArgs(t *testing.T) {
	h := hierarchy.New()
	wide := abstract("Wide", api.MaxArgs, anyType())
	var params []api.Type
	var fields []api.Field
	for i := range api.MaxArgs {
		params = append(params, variable(i))
		fields = append(fields, field("f"+strconv.Itoa(i), variable(i)))
	}
	expectDeclare(t, h, wide, api.OK)
	expectDeclare(t, h, concrete("Full", api.MaxArgs, named("Wide", params...), fields...), api.OK)
	expectDeclare(t, h, abstract("A", api.MaxArgs+1, anyType()), api.ErrTooLong)
	expectDeclare(t, h, abstract("A", math.MaxInt, anyType()), api.ErrTooLong)
	expectDeclare(t, h, abstract("A", api.MaxArgs+1, named("Box", variable(api.MaxArgs))), api.ErrTooLong)
	expectDeclare(t, h, concrete("A", 0, anyType(), manyFields(api.MaxArgs+1)...), api.ErrTooLong)
	expectDeclare(t, h, concrete("A", 0, anyType(), manyFields(1<<16)...), api.ErrTooLong)
	expectDeclare(t, h, concrete("A", api.MaxArgs, anyType(), field("x", variable(api.MaxArgs))), api.ErrInvalid)
}

// P3.2: an equal declaration is accepted without effect, one of the same name that differs in any field is not.
func TestDuplicates(t *testing.T) {
	h := sample(t)
	for _, d := range append(h.Decls(), sampleDecls()...) {
		expectDeclare(t, h, d, api.OK)
		other := d
		other.Arity++
		expectDeclare(t, h, other, api.ErrDuplicate)
		other = d
		other.Super = named("Seq", boolType())
		expectDeclare(t, h, other, api.ErrDuplicate)
		other = d
		other.Concrete, other.Fields = !d.Concrete, nil
		expectDeclare(t, h, other, api.ErrDuplicate)
		other = d
		other.Concrete, other.Fields = true, append(slices.Clone(d.Fields), field("more", intType()))
		expectDeclare(t, h, other, api.ErrDuplicate)
	}
	vec := sampleDecls()[4]
	for _, fields := range [][]api.Field{nil, vec.Fields[:1], vec.Fields[1:], {vec.Fields[1], vec.Fields[0]}, {vec.Fields[0], field("Len", intType())}, {vec.Fields[0], field("len", boolType())}} {
		expectDeclare(t, h, concrete("Vec", 1, vec.Super, fields...), api.ErrDuplicate)
	}
	expectDeclare(t, h, concrete("Vec", 1, named("List", named("Box", intType())), vec.Fields...), api.ErrDuplicate)
}

// P3.2: MaxDecls is exact and counts the built-in declarations; an equal declaration is accepted beyond it.
func TestMaxDecls(t *testing.T) {
	h := hierarchy.New()
	for i := range api.MaxDecls - 4 {
		expectDeclare(t, h, abstract("N"+strconv.Itoa(i), 0, anyType()), api.OK)
	}
	expectDeclare(t, h, abstract("More", 0, anyType()), api.ErrFull)
	for _, d := range h.Decls() {
		expectDeclare(t, h, d, api.OK)
	}
	expectDeclare(t, h, abstract("N3", 1, anyType()), api.ErrDuplicate)
	expectDeclare(t, h.Clone(), abstract("More", 0, anyType()), api.ErrFull)
}

// P3.2: names that are not declared or have another arity.
func TestUnknownNames(t *testing.T) {
	h := sample(t)
	for _, x := range []api.Type{
		named("Nothing"), named("seq", intType()), named("Seq"), named("Seq", intType(), intType()), named("Int", intType()),
		named("Seq", named("Nothing")), named("Seq", tuple(named("Box"))), named("Map", intType(), exists(named("Nothing"), anyType())),
		// The declaration itself is not known in Super.
		named("A"), named("A", intType()), named("A", variable(0)), named("Seq", named("A", intType())), named("Seq", named("A", variable(0))), named("Seq", union(intType(), named("A", intType()))),
	} {
		expectDeclare(t, h, abstract("A", 1, x), api.ErrUnknownName)
		expectDeclare(t, h, concrete("A", 1, x, field("next", named("A", variable(0)))), api.ErrUnknownName)
	}
	for _, x := range []api.Type{
		named("Nothing"), named("Box"), named("Int", intType()), named("Box", named("Nothing")), tuple(intType(), named("Nothing")), exists(anyType(), named("Nothing")),
		// The declaration itself with another arity.
		named("A"), named("A", intType(), intType()), named("Box", named("A")), union(intType(), named("A")), named("A", named("A")),
	} {
		expectDeclare(t, h, concrete("A", 1, anyType(), field("x", x)), api.ErrUnknownName)
		expectDeclare(t, h, concrete("A", 1, anyType(), field("x", intType()), field("y", x)), api.ErrUnknownName)
	}
	// The name in a field type must still be unknown after the rejection.
	if h.Knows(named("A", intType())) {
		t.Error("a rejected declaration is known")
	}
}

// P3.2: a concrete type has no subtypes.
func TestConcreteSuper(t *testing.T) {
	for _, x := range []api.Type{intType(), named("Nil"), named("Unit"), named("Row"), named("Box", intType()), named("Pair", variable(0), variable(0))} {
		expectDeclare(t, sample(t), abstract("A", 1, x), api.ErrWrongKind)
		expectDeclare(t, sample(t), concrete("A", 1, x), api.ErrWrongKind)
	}
}

// P3.2: of several errors, the first in the order of the document is returned.
func TestOrderOfErrors(t *testing.T) {
	invalid := field("x", variable(9))
	unknown := field("y", named("Nothing"))
	h := sample(t)
	// An invalid part comes before all other errors, wherever it is.
	for _, d := range []api.Decl{
		abstract("Any", 7, named("Nothing")), abstract("Int", -7, intType()), abstract("Int", 7, never()), concrete("Int", 7, named("Unit"), append(manyFields(7), invalid)...),
		concrete("A", 0, named("Unit"), unknown, invalid), {Name: "Int", Arity: 7, Fields: manyFields(7)}, concrete("A", 0, anyType(), append(manyFields(9), field("f8", intType()))...),
	} {
		expectDeclare(t, h, d, api.ErrInvalid)
	}
	// A limit comes before a duplicate, a full hierarchy and the checks of names.
	for _, d := range []api.Decl{
		abstract("Int", 7, anyType()), abstract("A", 7, named("Nothing")), abstract("A", 7, named("Unit")),
		concrete("Seq", 1, intType(), manyFields(7)...), concrete("A", 0, intType(), append(manyFields(6), unknown)...),
	} {
		expectDeclare(t, h, d, api.ErrTooLong)
	}
	// A duplicate comes before the checks of names.
	expectDeclare(t, h, abstract("Int", 0, named("Nothing")), api.ErrDuplicate)
	expectDeclare(t, h, abstract("Seq", 1, named("Unit")), api.ErrDuplicate)
	expectDeclare(t, h, concrete("Unit", 0, anyType(), unknown), api.ErrDuplicate)
	// An unknown name comes before a concrete supertype.
	expectDeclare(t, h, concrete("A", 0, intType(), unknown), api.ErrUnknownName)
	expectDeclare(t, h, abstract("A", 0, named("Box", named("Nothing"))), api.ErrUnknownName)
	expectDeclare(t, h, abstract("A", 0, named("Box")), api.ErrUnknownName)
	for i := len(h.Decls()); i < api.MaxDecls; i++ {
		declare(t, h, abstract("N"+strconv.Itoa(i), 0, anyType()))
	}
	// A full hierarchy comes after a duplicate and before the checks of names.
	expectDeclare(t, h, abstract("A", 0, never()), api.ErrInvalid)
	expectDeclare(t, h, abstract("A", 7, anyType()), api.ErrTooLong)
	expectDeclare(t, h, abstract("Int", 0, named("Nothing")), api.ErrDuplicate)
	expectDeclare(t, h, abstract("A", 0, named("Nothing")), api.ErrFull)
	expectDeclare(t, h, abstract("A", 0, named("Unit")), api.ErrFull)
	expectDeclare(t, h, concrete("A", 0, anyType(), unknown), api.ErrFull)
}
