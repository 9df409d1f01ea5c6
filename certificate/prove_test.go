package certificate_test

import (
	"testing"

	"telpher/api"
	"telpher/certificate"
	"telpher/dnf"
	"telpher/hierarchy"
	. "telpher/typetest"
)

// three returns a normal type with three branches.
func three() api.Type { return Union(Bool(), Circle(), Int()) }

// paired returns a type with the variable 0 as the first element.
func paired(bound api.Type, more ...api.Type) api.Type {
	return Exists(bound, Tuple(append([]api.Type{Variable(0)}, more...)...))
}

// P7.1 and P7.2: the example of the chapter.
func TestExample(t *testing.T) {
	expectProof(t, SampleHierarchy(), Int(), Any(), node(direct(1)))
	c, ok := certificate.Prove(hierarchy.New(), Int(), Any())
	if !ok || len(c.Parts) != 1 || c.Parts[0].Branch != 1 {
		t.Errorf("the certificate that Int is a subtype of Any is %s, %v", brief(c), ok)
	}
}

// P7.1: a type certificate has a part for each branch of the type, in order, also if there is none.
func TestTypeCertificates(t *testing.T) {
	h := SampleHierarchy()
	expectProof(t, h, Never(), Int(), node())
	expectProof(t, h, Never(), Never(), node())
	expectProof(t, h, Never(), Any(), node())
	expectProof(t, h, Any(), Any(), into(1))
	expectProof(t, h, Int(), three(), into(3))
	expectProof(t, h, Ints(), Ints(), into(1, 2))
	expectProof(t, h, Ints(), three(), into(1, 3))
	expectProof(t, h, three(), Any(), into(1, 1, 1))
	expectProof(t, h, three(), Union(Bool(), Int(), Shape()), into(1, 3, 2))
	expectProof(t, h, Tuple(), Tuple(), into(1))
	expectProof(t, h, Tuple(Circle(), Tuple(Int())), Union(Int(), Tuple(Shape(), Any())), into(2))
}

// P7.1: two certificates for each pair of closed arguments that must be Equivalent.
func TestClosedArguments(t *testing.T) {
	h := SampleHierarchy()
	expectProof(t, h, Box(Int()), Box(Int()), node(direct(1, self(1), self(1))))
	expectProof(t, h, Box(Never()), Box(Never()), node(direct(1, node(), node())))
	expectProof(t, h, Box(Box(Ints())), Box(Box(Ints())), boxed(boxed(self(2))))
	expectProof(t, h, Vec(Ints()), List(Ints()), node(direct(1, self(2), self(2))))
	// The arguments are those of the supertype, from left to right.
	swap := Named("Swap", Int(), Ints())
	expectProof(t, h, swap, Named("Pair", Ints(), Int()), node(direct(1, self(2), self(2), self(1), self(1))))
	expectProof(t, h, swap, Named("Map", Ints(), Box(Int())), node(direct(1, self(2), self(2), boxed(self(1)), boxed(self(1)))))
	expectProof(t, h, Named("Text"), List(Int()), node(direct(1, self(1), self(1))))
	expectProof(t, h, Named("Text"), Named("Coll", Box(Int())), node(direct(1, boxed(self(1)), boxed(self(1)))))
	expectProof(t, h, Tuple(Box(three()), Tuple(Vec(Int())), Box(Ints())), Tuple(Box(three()), Tuple(List(Int())), Box(Ints())),
		node(direct(1, self(3), self(3), self(1), self(1), self(2), self(2))))
	// An argument of the pattern may be closed beside one that is not.
	beside := Exists(Any(), Tuple(Box(Named("Map", Variable(0), Ints())), Box(Named("Map", three(), Int()))))
	c := node(assign(1, Variable(0), self(2), self(2), node(direct(1, self(3), self(3), self(1), self(1))), node(direct(1, self(3), self(3), self(1), self(1))), toAny(1)))
	expectProof(t, h, beside, beside, c)
}

// P7.1: two certificates for each assigned term and a later argument that must agree with it, among
// those for closed arguments.
func TestArgumentsThatAgree(t *testing.T) {
	h := SampleHierarchy()
	twice := Exists(Any(), Tuple(Box(Variable(0)), Box(Variable(0))))
	expectProof(t, h, Tuple(Box(Ints()), Box(Ints())), twice, node(assign(1, Ints(), self(2), self(2), toAny(2))))
	expectProof(t, h, twice, twice, node(assign(1, Variable(0), toAny(1))))
	for _, c := range []struct {
		x, y  api.Type
		parts []api.Certificate
	}{
		{Tuple(Box(Ints()), Named("Map", Int(), Ints())), Exists(Any(), Tuple(Box(Variable(0)), Named("Map", Int(), Variable(0)))), []api.Certificate{self(1), self(1), self(2), self(2)}},
		{Tuple(Box(Ints()), Named("Map", Ints(), Int())), Exists(Any(), Tuple(Box(Variable(0)), Named("Map", Variable(0), Int()))), []api.Certificate{self(2), self(2), self(1), self(1)}},
		{Tuple(Box(Ints()), Box(Int()), Vec(Ints()), Box(three())), Exists(Any(), Tuple(Box(Variable(0)), Box(Int()), List(Variable(0)), Box(three()))), []api.Certificate{self(1), self(1), self(2), self(2), self(3), self(3)}},
		{Tuple(Box(Named("Map", Ints(), Int())), Box(Ints())), Exists(Any(), Tuple(Box(Named("Map", Variable(0), Int())), Box(Variable(0)))), []api.Certificate{self(1), self(1), self(2), self(2)}},
	} {
		expectProof(t, h, c.x, c.y, node(assign(1, Ints(), append(c.parts, toAny(2))...)))
	}
	// In terms that are not closed, each pair of closed arguments counts.
	open := Named("Map", Named("Map", three(), Variable(0)), Ints())
	x := Exists(Any(), Tuple(Box(open), Box(open), Box(Variable(0))))
	expectProof(t, h, x, Exists(Any(), Tuple(Box(Variable(0)), Box(Variable(0)), Any())), node(assign(1, open, self(3), self(3), self(2), self(2), toAny(1))))
}

// P7.1: which of two terms comes first. The arguments of a declared supertype need not be normal.
func TestDirections(t *testing.T) {
	h := SampleHierarchy()
	other := Union(Circle(), Int(), Bool())
	Declare(h, api.Decl{Name: "Odd", Super: List(other)}, api.Decl{Name: "OddMap", Arity: 1, Super: Named("Map", Variable(0), other)})
	fromOther, toOther := into(2, 3, 1), into(3, 1, 2)
	// The argument of b before a closed argument.
	expectProof(t, h, Named("Odd"), List(three()), node(direct(1, fromOther, toOther)))
	// The assigned term before a later argument.
	y := Exists(Any(), Tuple(List(Variable(0)), List(Variable(0))))
	expectProof(t, h, Tuple(Named("Odd"), List(three())), y, node(assign(1, other, fromOther, toOther, toAny(3))))
	expectProof(t, h, Tuple(List(three()), Named("Odd")), y, node(assign(1, three(), toOther, fromOther, toAny(3))))
	// The argument of the supertype of a part before that of the assigned term.
	x := Exists(Any(), Tuple(Named("OddMap", Variable(0)), Box(Named("Map", Variable(0), three()))))
	y = paired(Any(), Box(Variable(0)))
	expectProof(t, h, x, y, node(assign(1, Named("Map", Variable(0), three()), fromOther, toOther, toAny(1))))
}

// P7.1: one certificate for each covariant occurrence whose assigned term is closed, after those
// for arguments.
func TestCovariantOccurrences(t *testing.T) {
	h := SampleHierarchy()
	anyOf := func(more ...api.Type) api.Type { return paired(Any(), more...) }
	expectProof(t, h, Tuple(Int(), Box(Ints())), anyOf(Box(Variable(0))), node(assign(1, Ints(), into(2), toAny(2))))
	expectProof(t, h, Tuple(Int(), Box(Int()), Box(three())), anyOf(Box(Int()), Box(Variable(0))), node(assign(1, three(), self(1), self(1), into(3), toAny(3))))
	expectProof(t, h, Tuple(Int(), Bool(), Box(Ints()), Int()), anyOf(Variable(0), Box(Variable(0)), Variable(0)), node(assign(1, Ints(), into(2), into(1), into(2), toAny(2))))
	expectProof(t, h, Tuple(Box(Ints()), Box(Ints()), Bool()), Exists(Any(), Tuple(Box(Variable(0)), Box(Variable(0)), Variable(0))), node(assign(1, Ints(), self(2), self(2), into(1), toAny(2))))
	expectProof(t, h, Tuple(Tuple(Circle(), Int()), Box(Tuple(Shape(), Any()))), anyOf(Box(Variable(0))), node(assign(1, Tuple(Shape(), Any()), into(1), toAny(1))))
	// The occurrences come in their own order, and the bounds in the order of the variables.
	x := Tuple(Box(three()), Box(Ints()), Bool(), Circle())
	y := Exists(Union(Bool(), Int(), Shape()), Exists(Any(), Tuple(Box(Variable(1)), Box(Variable(0)), Variable(0), Variable(1))))
	want := assign(1, three(), into(1), into(2), into(1, 3, 2), toAny(2))
	want.Assigned = append(want.Assigned, Ints())
	expectProof(t, h, x, y, node(want))
}

// P7.1: the parts of the certificate of a part of b correspond to the branches of dnf.ExpandPart.
func TestPartsOfBranches(t *testing.T) {
	h := SampleHierarchy()
	third := paired(Any(), Any(), Box(Variable(0)))
	// The part is a variable.
	expectProof(t, h, paired(Ints(), Box(Variable(0)), Box(three())), third, node(assign(1, three(), into(1, 3), toAny(3))))
	// It is a nominal type with a variable, which gets another number.
	x := Exists(Int(), Exists(Shape(), Tuple(Vec(Variable(1)), Box(Variable(0)), Box(AnyBox()))))
	y := Exists(Any(), Tuple(Any(), Variable(0), Box(Variable(0))))
	expectProof(t, h, x, y, node(assign(1, AnyBox(), node(assign(1, Variable(0), toAny(1))), toAny(1))))
	// Two parts differ only in the upper bounds of their variables.
	x = Exists(Int(), Exists(Ints(), Tuple(Box(Variable(1)), Box(Variable(0)), Box(AnyBox()))))
	y = paired(Any(), Variable(0), Box(Variable(0)))
	expectProof(t, h, x, y, node(assign(1, AnyBox(), node(assign(1, Variable(0), toAny(1))), node(assign(1, Variable(0), toAny(2))), toAny(1))))
	// It is a tuple with a variable that has no invariant occurrence in it.
	var pairs []api.Type
	for _, first := range Ints().Args {
		for _, second := range Ints().Args {
			pairs = append(pairs, Tuple(first, second))
		}
	}
	x = Exists(Ints(), Tuple(Tuple(Variable(0), Variable(0)), Box(Variable(0)), Box(Union(pairs...))))
	expectProof(t, h, x, third, node(assign(1, Union(pairs...), self(4), toAny(4))))
	// It is a tuple that has to be split.
	both := normal(t, h, Union(Tuple(Bool(), AnyBox()), Tuple(Int(), AnyBox())))
	x = Exists(Ints(), Tuple(Tuple(Variable(0), Box(Variable(0))), Any(), Box(both)))
	parts := split(1, assign(1, Variable(0), toAny(2)), assign(2, Variable(0), toAny(2)))
	expectProof(t, h, x, third, node(assign(1, both, node(parts), toAny(2))))
}

// P7.1: if the assigned term is a variable there is nothing to show, and if it is another term that
// is not closed, two certificates for each pair of closed arguments that must agree.
func TestOpenAssignedTerms(t *testing.T) {
	h := SampleHierarchy()
	y := paired(Any(), Box(Variable(0)))
	expectProof(t, h, paired(Ints(), Box(Variable(0))), y, node(assign(1, Variable(0), toAny(2))))
	expectProof(t, h, Exists(Any(), Tuple(Vec(Variable(0)), Box(List(Variable(0))))), y, node(assign(1, List(Variable(0)), toAny(1))))
	open := Named("Map", Variable(0), Box(Ints()))
	expectProof(t, h, Exists(Any(), Tuple(Named("Pair", Variable(0), Ints()), Box(open))), y, node(assign(1, open, boxed(self(2)), boxed(self(2)), toAny(1))))
	open = Named("Pair", Named("Map", three(), Variable(0)), Ints())
	expectProof(t, h, Exists(Any(), Tuple(Named("Swap", Ints(), open.Args[0]), Box(open))), y, node(assign(1, open, self(3), self(3), self(2), self(2), toAny(1))))
	// Occurrences of all kinds stand in their order.
	x := Exists(Any(), Tuple(Int(), Named("Pair", Variable(0), three()), Bool(), Box(Ints()), Box(Named("Pair", Variable(0), three()))))
	y = Exists(Any(), Exists(Any(), Tuple(Variable(1), Variable(0), Variable(1), Box(Variable(1)), Box(Variable(0)))))
	want := assign(1, Ints(), into(2), self(3), self(3), into(1), toAny(2), toAny(1))
	want.Assigned = append(want.Assigned, Named("Pair", Variable(0), three()))
	expectProof(t, h, x, y, node(want))
}

// P7.1: one certificate for each variable, that the assigned term is a subtype of its upper bound.
func TestUpperBounds(t *testing.T) {
	h := SampleHierarchy()
	bound := Union(Bool(), Int(), Shape())
	expectProof(t, h, Box(Circle()), Exists(bound, Box(Variable(0))), node(assign(1, Circle(), into(3))))
	expectProof(t, h, Box(three()), Exists(bound, Box(Variable(0))), node(assign(1, three(), into(1, 3, 2))))
	expectProof(t, h, Exists(three(), Box(Variable(0))), Exists(bound, Box(Variable(0))), node(assign(1, Variable(0), into(1, 3, 2))))
	expectProof(t, h, Exists(Never(), Box(Variable(0))), Exists(Int(), Box(Variable(0))), node(assign(1, Variable(0), node())))
	expectProof(t, h, Box(Never()), Exists(Int(), Box(Variable(0))), node(assign(1, Never(), node())))
	lists := Exists(Any(), List(Variable(0)))
	expectProof(t, h, Exists(Int(), Box(Vec(Variable(0)))), Exists(lists, Box(Variable(0))), node(assign(1, Vec(Variable(0)), node(assign(1, Variable(0), toAny(1))))))
	x := Tuple(Box(three()), Named("Map", Circle(), Ints()))
	y := Exists(bound, Exists(Shape(), Exists(Ints(), Tuple(Box(Variable(2)), Named("Map", Variable(1), Variable(0))))))
	want := assign(1, three(), into(1, 3, 2), into(1), self(2))
	want.Assigned = append(want.Assigned, Circle(), Ints())
	expectProof(t, h, x, y, node(want))
}

// P7.2: a branch certificate is direct, for the first branch that matches.
func TestFirstBranch(t *testing.T) {
	h := SampleHierarchy()
	x := Tuple(Circle(), Circle())
	y := Union(Tuple(Circle(), Int()), Tuple(Circle(), Shape()), Tuple(Shape(), Circle()))
	expectProof(t, h, x, y, into(2))
	expectVerify(t, h, x, y, into(3), true)
	expectVerify(t, h, x, y, into(1), false)
	// Also if a split would do.
	s := paired(Ints(), Box(Variable(0)))
	expectProof(t, h, s, Tuple(Any(), Any()), into(1))
	expectVerify(t, h, s, Tuple(Any(), Any()), node(split(1, direct(1), direct(1))), true)
	expectProof(t, h, s, normal(t, h, Union(Tuple(Any(), AnyBox()), Int())), node(assign(2, Variable(0), toAny(2))))
}

// P7.2: if no branch matches, it is split at the first covariant occurrence for which the check
// succeeds, also if another split would be shorter.
func TestFirstSplit(t *testing.T) {
	h := SampleHierarchy()
	matched := func(branch int) api.Certificate { return assign(branch, Variable(0), toAny(2)) }
	one := paired(Ints(), Box(Variable(0)))
	expectProof(t, h, one, normal(t, h, Union(Tuple(Bool(), AnyBox()), Tuple(Int(), AnyBox()))), node(split(1, matched(1), matched(2))))
	two := paired(Ints(), Variable(0), Box(Variable(0)))
	expectProof(t, h, two, normal(t, h, Union(Tuple(Bool(), Any(), AnyBox()), Tuple(Int(), Any(), AnyBox()))), node(split(1, matched(1), matched(2))))
	second := normal(t, h, Union(Tuple(Any(), Bool(), AnyBox()), Tuple(Any(), Int(), AnyBox())))
	inner := split(1, matched(1), matched(2))
	expectProof(t, h, two, second, node(split(1, inner, inner)))
	expectVerify(t, h, two, second, node(split(2, matched(1), matched(2))), true)
	expectVerify(t, h, two, second, node(split(2, inner, inner)), false)
	// The split of the first occurrence spoils the match.
	spoiled := normal(t, h, Union(paired(Any(), Bool(), Box(Variable(0))), paired(Any(), Int(), Box(Variable(0)))))
	expectProof(t, h, two, spoiled, node(split(2, matched(1), matched(2))))
	expectVerify(t, h, two, spoiled, node(split(1, inner, inner)), false)
	// The upper bound has a covariant occurrence itself.
	deep := paired(one, Box(Variable(0)))
	boxOne := Exists(one, Box(Variable(0)))
	ofOne := func(branch int) api.Certificate {
		c := assign(branch, Variable(0), toAny(2), node(assign(1, Variable(0), self(2))))
		c.Assigned = append(c.Assigned, Variable(1))
		return c
	}
	above := normal(t, h, Union(Tuple(Tuple(Bool(), AnyBox()), boxOne), Tuple(Tuple(Int(), AnyBox()), boxOne)))
	expectProof(t, h, deep, above, node(split(1, split(1, ofOne(1), ofOne(2)))))
}

// P7.2: Prove returns false for types that are not related, and without an expansion.
func TestNotRelated(t *testing.T) {
	h := SampleHierarchy()
	for _, c := range [][2]api.Type{
		{Any(), Int()}, {Any(), Never()}, {Int(), Bool()}, {Ints(), Int()}, {three(), Union(Bool(), Shape())}, {Shape(), Circle()}, {Tuple(), Tuple(Int())}, {Tuple(Int()), Int()},
		{Box(Int()), Box(Any())}, {AnyBox(), Box(Any())}, {List(Int()), Vec(Int())}, {Tuple(Box(Int()), Box(Bool())), Exists(Any(), Tuple(Box(Variable(0)), Box(Variable(0))))},
		{Tuple(Bool(), Box(Int())), paired(Any(), Box(Variable(0)))}, {Box(Bool()), Exists(Int(), Box(Variable(0)))}, {paired(Ints(), Box(Variable(0))), Tuple(Int(), AnyBox())},
		{Named("Unknown"), Int()}, {Variable(0), Any()}, {Node(9), Any()}, {Int(), Node(9)}, {Box(Variable(0)), AnyBox()},
	} {
		expectNoProof(t, h, c[0], c[1])
	}
}

// wide returns the sample hierarchy with a type below List of a type with 64 branches, which cannot be expanded.
func wide(t *testing.T) (*hierarchy.Hierarchy, api.Type) {
	t.Helper()
	h := SampleHierarchy()
	many := Tuple(Repeat(6, Ints())...)
	Declare(h, api.Decl{Name: "Wide", Super: List(many), Concrete: true})
	if _, err := dnf.Expand(many); err != api.ErrTooLong {
		t.Fatal("the type can be expanded")
	}
	return h, many
}

// P7.1: no limit applies to the branches of a part, but what cannot be expanded is equivalent to nothing.
func TestNoExpansion(t *testing.T) {
	h, many := wide(t)
	expectProof(t, h, Named("Wide"), Exists(Any(), List(Variable(0))), node(assign(1, many, toAny(64))))
	x := Tuple(Named("Wide"), Named("Wide"))
	y := Exists(Any(), Tuple(List(Variable(0)), List(Variable(0))))
	expectNoProof(t, h, x, y)
	expectVerify(t, h, x, y, node(assign(1, many, toAny(64))), false)
	expectVerify(t, h, x, y, node(assign(1, many, self(64), self(64), toAny(64))), false)
	expectVerify(t, h, x, y, node(assign(1, many, node(), node(), toAny(64))), false)
	expectNoProof(t, h, Tuple(Int(), Named("Wide")), Exists(Any(), Tuple(Variable(0), List(Variable(0)))))
	// Not even to Never, whose certificates have no parts.
	never := List(Never())
	expectNoProof(t, h, Named("Wide"), never)
	expectVerify(t, h, Named("Wide"), never, node(direct(1, node(), node())), false)
	expectVerify(t, h, Tuple(never, Named("Wide")), y, node(assign(1, Never(), node(), node(), node())), false)
	expectVerify(t, h, Tuple(Named("Wide"), never), y, node(assign(1, many, node(), node(), toAny(64))), false)
	expectProof(t, h, Tuple(never, never), y, node(assign(1, Never(), node(), node(), node())))
}

// P7.1: supertypes of types that only just have room.
func TestLargeSupertypes(t *testing.T) {
	h := SampleHierarchy()
	large := Tuple(Repeat(6, Tuple(Repeat(6, Tuple(Repeat(4, Int())...))...))...) // 187 nodes
	expectProof(t, h, Vec(large), List(large), node(direct(1, self(1), self(1))))
	expectProof(t, h, Vec(large), Exists(Any(), Named("Coll", Variable(0))), node(assign(1, Box(large), toAny(1))))
}

// P7.1: the certificate of types inside one another doubles at each level.
func TestDoubling(t *testing.T) {
	h := SampleHierarchy()
	x := Nest(11, Box, Int())
	want := self(1)
	for range 11 {
		want = boxed(want)
	}
	expectProof(t, h, x, x, want)
	if size := certificate.Size(want); size != 2*(1<<12-1) {
		t.Errorf("Size is %d", size)
	}
}
