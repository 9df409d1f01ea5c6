package hierarchy_test

import (
	"math"
	"slices"
	"strconv"
	"strings"
	"testing"

	"telpher/api"
	"telpher/hierarchy"
	. "telpher/typetest"
)

// P3.1: the built-in declarations.
func TestNew(t *testing.T) {
	want := []api.Decl{concrete("Int", 0, Any()), concrete("Bool", 0, Any()), concrete("String", 0, Any()), concrete("Nil", 0, Any())}
	h := hierarchy.New()
	if got := h.Decls(); !slices.EqualFunc(got, want, sameDecl) {
		t.Errorf("Decls of a new hierarchy: %v", got)
	}
	declare(t, h, abstract("A", 0, Any()))
	if got := hierarchy.New().Decls(); !slices.EqualFunc(got, want, sameDecl) {
		t.Errorf("a new hierarchy has the declarations of another one: %v", got)
	}
}

// expectDeclare expects that Declare returns want, and that only a new declaration changes h.
func expectDeclare(t *testing.T, h *hierarchy.Hierarchy, d api.Decl, want api.Errno) {
	t.Helper()
	before := h.Decls()
	got := h.Declare(d)
	if got != want {
		t.Errorf("Declare(%.300v) = %d; want %d", d, got, want)
	}
	after := before
	if isNew := !slices.ContainsFunc(before, func(known api.Decl) bool { return known.Name == d.Name }); got == api.OK && isNew {
		after = append(slices.Clone(before), d)
	}
	if !slices.EqualFunc(h.Decls(), after, sameDecl) {
		t.Errorf("after Declare(%.300v) = %d: %v", d, got, h.Decls())
	}
}

// P3.1, P3.2: declarations that are accepted, each one in a hierarchy of its own.
func TestDeclare(t *testing.T) {
	longest := "X" + strings.Repeat("9", api.MaxWord-1)
	for _, d := range []api.Decl{
		abstract("a", 0, Any()), abstract("any", 0, Any()), abstract("Tuple", 0, Any()), abstract("A_b_9", 0, Any()), abstract(longest, 0, Any()),
		concrete("A", 0, Any()), concrete("A", 3, Any()),
		abstract("A", 0, Named("List", Union(Int(), Bool()))), abstract("A", 0, Named("List", Exists(Any(), Tuple(Variable(0))))),
		abstract("A", 2, Named("Map", Variable(1), Variable(1))), concrete("A", 1, Named("Seq", Named("Box", Variable(0)))), concrete("A", 0, Named("Seq", Named("Unit"))),
		concrete("A", 0, Any(), field("x", Any()), field("X", Never()), field("Any", Tuple()), field("tuple", Int()), field(longest, Exists(Named("Seq", Int()), Variable(0)))),
		concrete("A", 2, Any(), field("x", Variable(1)), field("y", Variable(0)), field("z", Variable(1))),
		// A field type may refer to the declaration itself.
		concrete("A", 0, Any(), field("next", Named("A"))),
		concrete("A", 2, Named("Seq", Int()), field("x", Named("A", Variable(1), Named("A", Variable(0), Int()))), field("y", Union(Named("Nil"), Tuple(Named("A", Any(), Never())))), field("z", Exists(Any(), Named("A", Variable(0), Variable(0))))),
	} {
		expectDeclare(t, sample(t), d, api.OK)
	}
}

// P3.2: every kind of invalid declaration.
func TestInvalidDeclarations(t *testing.T) {
	h := sample(t)
	for _, name := range []string{"", "1", "_a", "a-b", "a b", " a", "a\n", "\x00", "\u00e9", "(A)", strings.Repeat("x", api.MaxWord+1), strings.Repeat("x", 1<<16), "Any", "Never", "tuple", "union", "exists"} {
		expectDeclare(t, h, abstract(name, 0, Any()), api.ErrInvalid)
		expectDeclare(t, h, concrete(name, 1, Named("Seq", Variable(0)), field("x", Int())), api.ErrInvalid)
	}
	for _, name := range []string{"", "1", "_a", "a-b", "a ", "\u00e9", strings.Repeat("x", api.MaxWord+1)} {
		expectDeclare(t, h, concrete("A", 0, Any(), field(name, Int())), api.ErrInvalid)
		expectDeclare(t, h, concrete("A", 0, Any(), field("ok", Int()), field(name, Int())), api.ErrInvalid)
	}
	for _, d := range []api.Decl{
		abstract("A", -1, Any()), abstract("A", math.MinInt, Any()), concrete("A", -1, Any()),
		// Super is neither Any nor a nominal type.
		abstract("A", 0, Never()), abstract("A", 0, Tuple()), abstract("A", 0, Tuple(Int())), abstract("A", 0, Union(Named("Unit"), Named("Row"))), abstract("A", 1, Variable(0)), abstract("A", 0, Exists(Any(), Named("Seq", Variable(0)))),
		// Super has a variable that is no parameter, or that lies in a term that is not closed.
		abstract("A", 0, Named("Seq", Variable(0))), abstract("A", 2, Named("Map", Variable(1), Named("Box", Variable(2)))), abstract("A", 3, Named("Seq", Variable(200))), abstract("A", 1, Named("Seq", Tuple(Variable(0)))),
		// So has a field type.
		concrete("A", 0, Any(), field("x", Variable(0))), concrete("A", 2, Any(), field("x", Variable(1)), field("y", Variable(2))), concrete("A", 1, Any(), field("x", Named("Box", Variable(1)))),
		concrete("A", 1, Any(), field("x", Tuple(Variable(0)))), concrete("A", 1, Any(), field("x", Union(Variable(0), Int()))), concrete("A", 1, Any(), field("x", Exists(Any(), Variable(1)))), concrete("A", 1, Any(), field("x", Tuple(Named("Box", Variable(0))))),
		// Names of fields.
		concrete("A", 0, Any(), field("x", Int()), field("x", Int())), concrete("A", 0, Any(), field("x", Int()), field("y", Int()), field("x", Bool())),
		// Fields of abstract types.
		{Name: "A", Fields: manyFields(1)}, {Name: "A", Arity: 1, Super: Named("Seq", Variable(0)), Fields: []api.Field{field("x", Variable(0))}},
	} {
		expectDeclare(t, h, d, api.ErrInvalid)
	}
	for _, x := range malformed() {
		expectDeclare(t, h, abstract("A", 6, x), api.ErrInvalid)
		expectDeclare(t, h, abstract("A", 6, Named("Seq", x)), api.ErrInvalid)
		expectDeclare(t, h, concrete("A", 6, Any(), field("x", x)), api.ErrInvalid)
		expectDeclare(t, h, concrete("A", 6, Any(), field("x", Int()), field("y", Tuple(x))), api.ErrInvalid)
	}
}

// P3.2: MaxArgs limits the parameters and the fields, exactly.
func TestMaxArgs(t *testing.T) {
	h := hierarchy.New()
	wide := abstract("Wide", api.MaxArgs, Any())
	var params []api.Type
	var fields []api.Field
	for i := range api.MaxArgs {
		params = append(params, Variable(i))
		fields = append(fields, field("f"+strconv.Itoa(i), Variable(i)))
	}
	expectDeclare(t, h, wide, api.OK)
	expectDeclare(t, h, concrete("Full", api.MaxArgs, Named("Wide", params...), fields...), api.OK)
	expectDeclare(t, h, abstract("A", api.MaxArgs+1, Any()), api.ErrTooLong)
	expectDeclare(t, h, abstract("A", math.MaxInt, Any()), api.ErrTooLong)
	expectDeclare(t, h, abstract("A", api.MaxArgs+1, Named("Box", Variable(api.MaxArgs))), api.ErrTooLong)
	expectDeclare(t, h, concrete("A", 0, Any(), manyFields(api.MaxArgs+1)...), api.ErrTooLong)
	expectDeclare(t, h, concrete("A", 0, Any(), manyFields(1<<16)...), api.ErrTooLong)
	expectDeclare(t, h, concrete("A", api.MaxArgs, Any(), field("x", Variable(api.MaxArgs))), api.ErrInvalid)
}

// P3.2: an equal declaration is accepted without effect, one of the same name that differs in any field is not.
func TestDuplicates(t *testing.T) {
	h := sample(t)
	for _, d := range append(h.Decls(), sampleDecls()...) {
		expectDeclare(t, h, d, api.OK)
		other := d
		other.Arity++
		expectDeclare(t, h, other, api.ErrDuplicate)
		other = d
		other.Super = Named("Seq", Bool())
		expectDeclare(t, h, other, api.ErrDuplicate)
		other = d
		other.Concrete, other.Fields = !d.Concrete, nil
		expectDeclare(t, h, other, api.ErrDuplicate)
		other = d
		other.Concrete, other.Fields = true, append(slices.Clone(d.Fields), field("more", Int()))
		expectDeclare(t, h, other, api.ErrDuplicate)
	}
	vec := sampleDecls()[4]
	for _, fields := range [][]api.Field{nil, vec.Fields[:1], vec.Fields[1:], {vec.Fields[1], vec.Fields[0]}, {vec.Fields[0], field("Len", Int())}, {vec.Fields[0], field("len", Bool())}} {
		expectDeclare(t, h, concrete("Vec", 1, vec.Super, fields...), api.ErrDuplicate)
	}
	expectDeclare(t, h, concrete("Vec", 1, Named("List", Named("Box", Int())), vec.Fields...), api.ErrDuplicate)
}

// P3.2: MaxDecls is exact and counts the built-in declarations; an equal declaration is accepted beyond it.
func TestMaxDecls(t *testing.T) {
	h := hierarchy.New()
	for i := range api.MaxDecls - 4 {
		expectDeclare(t, h, abstract("N"+strconv.Itoa(i), 0, Any()), api.OK)
	}
	expectDeclare(t, h, abstract("More", 0, Any()), api.ErrFull)
	for _, d := range h.Decls() {
		expectDeclare(t, h, d, api.OK)
	}
	expectDeclare(t, h, abstract("N3", 1, Any()), api.ErrDuplicate)
	expectDeclare(t, h.Clone(), abstract("More", 0, Any()), api.ErrFull)
}

// P3.2: names that are not declared or have another arity.
func TestUnknownNames(t *testing.T) {
	h := sample(t)
	for _, x := range []api.Type{
		Named("Nothing"), Named("seq", Int()), Named("Seq"), Named("Seq", Int(), Int()), Named("Int", Int()),
		Named("Seq", Named("Nothing")), Named("Seq", Tuple(Named("Box"))), Named("Map", Int(), Exists(Named("Nothing"), Any())),
		// The declaration itself is not known in Super.
		Named("A"), Named("A", Int()), Named("A", Variable(0)), Named("Seq", Named("A", Int())), Named("Seq", Named("A", Variable(0))), Named("Seq", Union(Int(), Named("A", Int()))),
	} {
		expectDeclare(t, h, abstract("A", 1, x), api.ErrUnknownName)
		expectDeclare(t, h, concrete("A", 1, x, field("next", Named("A", Variable(0)))), api.ErrUnknownName)
	}
	for _, x := range []api.Type{
		Named("Nothing"), Named("Box"), Named("Int", Int()), Named("Box", Named("Nothing")), Tuple(Int(), Named("Nothing")), Exists(Any(), Named("Nothing")),
		// The declaration itself with another arity.
		Named("A"), Named("A", Int(), Int()), Named("Box", Named("A")), Union(Int(), Named("A")), Named("A", Named("A")),
	} {
		expectDeclare(t, h, concrete("A", 1, Any(), field("x", x)), api.ErrUnknownName)
		expectDeclare(t, h, concrete("A", 1, Any(), field("x", Int()), field("y", x)), api.ErrUnknownName)
	}
	// The name in a field type must still be unknown after the rejection.
	if h.Knows(Named("A", Int())) {
		t.Error("a rejected declaration is known")
	}
}

// P3.2: a concrete type has no subtypes.
func TestConcreteSuper(t *testing.T) {
	for _, x := range []api.Type{Int(), Named("Nil"), Named("Unit"), Named("Row"), Named("Box", Int()), Named("Pair", Variable(0), Variable(0))} {
		expectDeclare(t, sample(t), abstract("A", 1, x), api.ErrWrongKind)
		expectDeclare(t, sample(t), concrete("A", 1, x), api.ErrWrongKind)
	}
}

// P3.2: of several errors, the first in the order of the document is returned.
func TestOrderOfErrors(t *testing.T) {
	invalid := field("x", Variable(9))
	unknown := field("y", Named("Nothing"))
	h := sample(t)
	// An invalid part comes before all other errors, wherever it is.
	for _, d := range []api.Decl{
		abstract("Any", 7, Named("Nothing")), abstract("Int", -7, Int()), abstract("Int", 7, Never()), concrete("Int", 7, Named("Unit"), append(manyFields(7), invalid)...),
		concrete("A", 0, Named("Unit"), unknown, invalid), {Name: "Int", Arity: 7, Fields: manyFields(7)}, concrete("A", 0, Any(), append(manyFields(9), field("f8", Int()))...),
	} {
		expectDeclare(t, h, d, api.ErrInvalid)
	}
	// A limit comes before a duplicate, a full hierarchy and the checks of names.
	for _, d := range []api.Decl{
		abstract("Int", 7, Any()), abstract("A", 7, Named("Nothing")), abstract("A", 7, Named("Unit")),
		concrete("Seq", 1, Int(), manyFields(7)...), concrete("A", 0, Int(), append(manyFields(6), unknown)...),
	} {
		expectDeclare(t, h, d, api.ErrTooLong)
	}
	// A duplicate comes before the checks of names.
	expectDeclare(t, h, abstract("Int", 0, Named("Nothing")), api.ErrDuplicate)
	expectDeclare(t, h, abstract("Seq", 1, Named("Unit")), api.ErrDuplicate)
	expectDeclare(t, h, concrete("Unit", 0, Any(), unknown), api.ErrDuplicate)
	// An unknown name comes before a concrete supertype.
	expectDeclare(t, h, concrete("A", 0, Int(), unknown), api.ErrUnknownName)
	expectDeclare(t, h, abstract("A", 0, Named("Box", Named("Nothing"))), api.ErrUnknownName)
	expectDeclare(t, h, abstract("A", 0, Named("Box")), api.ErrUnknownName)
	for i := len(h.Decls()); i < api.MaxDecls; i++ {
		declare(t, h, abstract("N"+strconv.Itoa(i), 0, Any()))
	}
	// A full hierarchy comes after a duplicate and before the checks of names.
	expectDeclare(t, h, abstract("A", 0, Never()), api.ErrInvalid)
	expectDeclare(t, h, abstract("A", 7, Any()), api.ErrTooLong)
	expectDeclare(t, h, abstract("Int", 0, Named("Nothing")), api.ErrDuplicate)
	expectDeclare(t, h, abstract("A", 0, Named("Nothing")), api.ErrFull)
	expectDeclare(t, h, abstract("A", 0, Named("Unit")), api.ErrFull)
	expectDeclare(t, h, concrete("A", 0, Any(), unknown), api.ErrFull)
}
