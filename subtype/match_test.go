package subtype_test

import (
	"slices"
	"testing"

	"telpher/api"
	"telpher/subtype"
	. "telpher/typetest"
)

// pairOf returns the type exists A <= first. exists B <= second. body, in whose body A is variable 1 and B is variable 0.
func pairOf(first, second, body api.Type) api.Type { return Exists(first, Exists(second, body)) }

// P5.3: the bodies are compared part by part.
func TestBodies(t *testing.T) {
	for _, x := range []api.Type{Any(), Int(), Tuple(), Tuple(Int(), Box(Int())), AnyBox()} {
		expectMatch(t, x, Any())
		expectMatch(t, Tuple(x, Int()), Tuple(Any(), Int()))
	}
	expectMatch(t, Int(), Int())
	expectMatch(t, Tuple(), Tuple())
	expectMatch(t, Tuple(Circle(), Tuple(Circle(), Int())), Tuple(Shape(), Tuple(Any(), Int())))
	for _, x := range []api.Type{Any(), Bool(), Tuple(), Tuple(Int())} {
		expectNoMatch(t, x, Int())
	}
	for _, x := range []api.Type{Any(), Int(), Tuple(), Tuple(Int(), Int()), Tuple(Bool()), Tuple(Tuple(Int())), Tuple(Any())} {
		expectNoMatch(t, x, Tuple(Int()))
	}
	expectNoMatch(t, Tuple(Int()), Tuple())
	expectNoMatch(t, Tuple(Int(), Bool()), Tuple(Int(), Int()))
	expectNoMatch(t, Tuple(Bool(), Int()), Tuple(Int(), Int()))
}

// P5.3: a KindNamed part needs a supertype of that name, which may be several steps up.
func TestSupertypes(t *testing.T) {
	expectMatch(t, Circle(), Shape())
	expectNoMatch(t, Shape(), Circle())
	expectNoMatch(t, Circle(), Square())
	expectMatch(t, Named("Text"), List(Int()))
	expectNoMatch(t, Named("Text"), List(Bool()))
	expectMatch(t, Named("Text"), Named("Coll", Box(Int())))
	expectMatch(t, Named("Ring", Int()), Vec(Box(Int())))
	expectMatch(t, Named("Ring", Int()), List(Box(Int())))
	expectMatch(t, Named("Ring", Int()), Named("Coll", Box(Box(Int()))))
	expectNoMatch(t, Named("Ring", Int()), Vec(Int()))
	expectNoMatch(t, Named("Ring", Int()), Named("Coll", Box(Int())))
	expectMatch(t, Named("Swap", Int(), Bool()), Named("Map", Bool(), Box(Int())))
	expectNoMatch(t, Named("Swap", Int(), Bool()), Named("Map", Int(), Box(Bool())))
	one := Exists(Any(), Named("Coll", Variable(0)))
	expectMatch(t, Named("Ring", Circle()), one, Box(Box(Circle())))
	expectMatch(t, Named("Text"), one, Box(Int()))
	expectMatch(t, Exists(Any(), Named("Ring", Variable(0))), one, Box(Box(Variable(0))))
	expectMatch(t, Exists(Any(), Named("Ring", Variable(0))), Exists(Any(), Named("Coll", Box(Variable(0)))), Box(Variable(0)))
	expectNoMatch(t, Named("Map", Int(), Int()), Exists(Any(), Box(Variable(0))))
	// Undeclared types have no supertypes but themselves.
	expectMatch(t, Named("Unknown", Int()), Exists(Any(), Named("Unknown", Variable(0))), Int())
	expectNoMatch(t, Named("Unknown"), Shape())
	expectNoMatch(t, Named("Vec", Int(), Int()), Exists(Any(), List(Variable(0))))
}

// P5.1: a variable that is not assigned takes any argument, and has to agree with later ones.
func TestVariablesInArguments(t *testing.T) {
	twice := Exists(Any(), Tuple(Box(Variable(0)), Vec(Variable(0))))
	for _, x := range []api.Type{Int(), Any(), Ints(), Tuple(), Box(Int()), AnyBox(), Never()} {
		expectMatch(t, Box(x), AnyBox(), x)
		expectMatch(t, Tuple(Box(x), Vec(x)), twice, x)
		expectMatch(t, Named("Map", x, x), Exists(Any(), Named("Map", Variable(0), Variable(0))), x)
		expectNoMatch(t, Tuple(Box(x), Vec(Circle())), twice)
	}
	thrice := Exists(Any(), Tuple(Box(Variable(0)), Box(Variable(0)), Box(Variable(0))))
	expectMatch(t, Tuple(Box(Int()), Box(Int()), Box(Int())), thrice, Int())
	expectNoMatch(t, Tuple(Box(Int()), Box(Int()), Box(Bool())), thrice)
	expectNoMatch(t, Tuple(Box(Int()), Box(Bool()), Box(Int())), thrice)
	expectNoMatch(t, Tuple(Box(Bool()), Box(Int()), Box(Int())), thrice)
	// P5.3: the terms are in the order of the variables of the pattern, which is that of their first occurrences.
	expectMatch(t, Tuple(Box(Int()), Box(Bool())), pairOf(Any(), Any(), Tuple(Box(Variable(1)), Box(Variable(0)))), Int(), Bool())
	expectMatch(t, Tuple(Box(Int()), Box(Bool())), pairOf(Any(), Any(), Tuple(Box(Variable(0)), Box(Variable(1)))), Int(), Bool())
	expectMatch(t, Tuple(Circle(), Box(Int()), Vec(Shape())), pairOf(Any(), Any(), Tuple(Variable(1), Box(Variable(0)), Vec(Variable(1)))), Shape(), Int())
}

// P5.1: closed arguments fit if they are equivalent, even if they are not equal. The first one is assigned.
func TestEquivalentArguments(t *testing.T) {
	swapped := Union(Int(), Bool())
	twoBoxes := pairOf(Any(), Any(), Tuple(Box(Variable(0)), Box(Variable(1))))
	twoBoxesAgain := Tuple(AnyBox(), AnyBox())
	expectMatch(t, Box(Ints()), Box(swapped))
	expectMatch(t, Box(twoBoxes), Box(twoBoxesAgain))
	expectMatch(t, Box(Box(Ints())), Box(Box(swapped)))
	expectMatch(t, Box(Exists(Shape(), Variable(0))), Box(Shape()))
	twice := Exists(Any(), Tuple(Box(Variable(0)), Vec(Variable(0))))
	expectMatch(t, Tuple(Box(Ints()), Vec(swapped)), twice, Ints())
	expectMatch(t, Tuple(Box(swapped), Vec(Ints())), twice, swapped)
	expectMatch(t, Tuple(Box(twoBoxes), Vec(twoBoxesAgain)), twice, twoBoxes)
	expectMatch(t, Tuple(Box(Box(Ints())), Vec(Box(swapped))), twice, Box(Ints()))
	for _, x := range []api.Type{Int(), Any(), Never(), Union(Int(), Circle())} {
		expectNoMatch(t, Box(x), Box(swapped))
		expectNoMatch(t, Box(swapped), Box(x))
		expectNoMatch(t, Tuple(Box(x), Vec(swapped)), twice)
		expectNoMatch(t, Tuple(Box(swapped), Vec(x)), twice)
	}
	expectNoMatch(t, Box(Circle()), Box(Shape()))
	expectNoMatch(t, Box(Shape()), Box(Circle()))
	// An argument of b that is not closed does not fit a closed one.
	expectNoMatch(t, AnyBox(), Box(Any()))
	expectNoMatch(t, Exists(Int(), Box(Variable(0))), Box(Int()))
	expectNoMatch(t, Exists(Any(), Box(Box(Variable(0)))), Box(Box(Any())))
	expectNoMatch(t, Exists(Any(), Box(Box(Variable(0)))), Box(AnyBox()))
}

// P5.1: a KindNamed argument that is not closed needs the same name and arguments that fit.
func TestNamedArguments(t *testing.T) {
	inBox := Exists(Any(), Box(Box(Variable(0))))
	expectMatch(t, Box(Box(Int())), inBox, Int())
	expectMatch(t, Exists(Any(), Box(Box(Variable(0)))), inBox, Variable(0))
	expectMatch(t, Box(Box(Box(Int()))), inBox, Box(Int()))
	for _, x := range []api.Type{Int(), Any(), Vec(Int()), Named("Box", Int(), Int()), Named("Box"), Tuple(Int()), AnyBox(), Union(Box(Int()), Box(Bool()))} {
		expectNoMatch(t, Box(x), inBox)
	}
	// Arguments are not compared with their supertypes.
	expectNoMatch(t, Box(Vec(Int())), Exists(Any(), Box(List(Variable(0)))))
	expectNoMatch(t, AnyBox(), inBox)
	mixed := Exists(Any(), Box(Named("Map", Int(), Variable(0))))
	expectMatch(t, Box(Named("Map", Int(), Bool())), mixed, Bool())
	expectNoMatch(t, Box(Named("Map", Bool(), Int())), mixed)
	deep := pairOf(Any(), Any(), Box(Named("Map", Box(Variable(1)), Named("Map", Variable(0), Variable(1)))))
	expectMatch(t, Box(Named("Map", Box(Int()), Named("Map", Bool(), Int()))), deep, Int(), Bool())
	expectNoMatch(t, Box(Named("Map", Box(Int()), Named("Map", Bool(), Bool()))), deep)
}

// P5.1: the variables of b are rigid.
func TestRigidVariables(t *testing.T) {
	b := pairOf(Any(), Int(), Tuple(Box(Variable(1)), Box(Variable(0)), Box(Variable(1))))
	three := Exists(Any(), pairOf(Any(), Any(), Tuple(Box(Variable(2)), Box(Variable(1)), Box(Variable(0)))))
	expectMatch(t, b, three, Variable(0), Variable(1), Variable(0))
	expectMatch(t, b, pairOf(Any(), Any(), Tuple(Box(Variable(1)), Box(Variable(0)), Box(Variable(1)))), Variable(0), Variable(1))
	expectNoMatch(t, b, pairOf(Any(), Any(), Tuple(Box(Variable(1)), Box(Variable(1)), Box(Variable(0)))))
	expectNoMatch(t, b, pairOf(Any(), Any(), Tuple(Box(Variable(1)), Box(Int()), Box(Variable(1)))))
	twice := Exists(Any(), Tuple(Box(Variable(0)), Box(Variable(0))))
	expectNoMatch(t, Exists(Int(), Tuple(Box(Variable(0)), Box(Int()))), twice)
	expectNoMatch(t, Exists(Int(), Tuple(Box(Int()), Box(Variable(0)))), twice)
	expectMatch(t, Exists(Any(), Tuple(Box(Box(Variable(0))), Box(Box(Variable(0))))), twice, Box(Variable(0)))
	expectMatch(t, Exists(Any(), Tuple(Box(Named("Map", Variable(0), Ints())), Box(Named("Map", Variable(0), Union(Int(), Bool()))))), twice, Named("Map", Variable(0), Ints()))
	expectNoMatch(t, Exists(Any(), Tuple(Box(Named("Map", Variable(0), Int())), Box(Named("Map", Variable(0), Bool())))), twice)
	expectNoMatch(t, Exists(Any(), Tuple(Box(Box(Variable(0))), Box(Vec(Variable(0))))), twice)
	expectNoMatch(t, Exists(Any(), Tuple(Box(Box(Variable(0))), Box(Named("Box", Variable(0), Variable(0))))), twice)
	expectNoMatch(t, Exists(Any(), Tuple(Box(Variable(0)), Box(Box(Variable(0))))), twice)
	expectNoMatch(t, Exists(Any(), Tuple(Box(Box(Variable(0))), Box(Variable(0)))), twice)
	// Arguments that agree are not compared with their supertypes.
	expectNoMatch(t, Exists(Any(), Tuple(Box(List(Variable(0))), Box(Vec(Variable(0))))), twice)
}

// P5.2 and P5.3: a part at a covariant occurrence has to be a subtype of the assigned closed term.
func TestCovariantOccurrences(t *testing.T) {
	before := Exists(Any(), Tuple(Variable(0), Box(Variable(0))))
	after := Exists(Any(), Tuple(Box(Variable(0)), Variable(0)))
	for _, c := range []struct {
		part, argument api.Type
		ok             bool
	}{
		{Int(), Int(), true}, {Int(), Any(), true}, {Int(), Ints(), true}, {Int(), Never(), false}, {Any(), Int(), false}, {Any(), Any(), true},
		{Circle(), Shape(), true}, {Shape(), Circle(), false}, {Vec(Int()), List(Int()), true}, {Vec(Int()), AnyBox(), false}, {Named("Ring", Int()), Exists(Any(), List(Box(Variable(0)))), true},
		{Tuple(Circle(), Int()), Tuple(Shape(), Any()), true}, {Tuple(Circle(), Int()), Tuple(Any()), false}, {Tuple(Circle()), Any(), true}, {Tuple(Int()), Union(Tuple(Int()), Bool()), true}, {Tuple(), Int(), false},
	} {
		if c.ok {
			expectMatch(t, Tuple(c.part, Box(c.argument)), before, c.argument)
			expectMatch(t, Tuple(Box(c.argument), c.part), after, c.argument)
		} else {
			expectNoMatch(t, Tuple(c.part, Box(c.argument)), before)
			expectNoMatch(t, Tuple(Box(c.argument), c.part), after)
		}
	}
	// All parts count, and a variable is assigned by its first invariant occurrence only.
	all := Exists(Any(), Tuple(Variable(0), Box(Variable(0)), Variable(0), Variable(0)))
	expectMatch(t, Tuple(Int(), Box(Ints()), Bool(), Int()), all, Ints())
	for i := range 4 {
		elements := []api.Type{Int(), Box(Ints()), Bool(), Int()}
		if i != 1 {
			elements[i] = Circle()
			expectNoMatch(t, Tuple(elements...), all)
		}
	}
	expectNoMatch(t, Tuple(Tuple(Int()), Box(Tuple(Int()))), Exists(Any(), Tuple(Tuple(Variable(0)), Box(Variable(0)))))
	expectMatch(t, Tuple(Tuple(Int()), Box(Any())), Exists(Any(), Tuple(Tuple(Variable(0)), Box(Variable(0)))), Any())
}

// P5.2: the variables of a part of b stay variables of its own, or are replaced by the branches of their bounds.
func TestPartsWithVariables(t *testing.T) {
	before := Exists(Any(), Tuple(Variable(0), Box(Variable(0))))
	loose := func(bound, argument api.Type) api.Type {
		return Exists(bound, Tuple(Variable(0), Box(argument), Box(Variable(0))))
	}
	pattern := Exists(Any(), Tuple(Variable(0), Box(Variable(0)), Any()))
	expectMatch(t, loose(Int(), Ints()), pattern, Ints())
	expectMatch(t, loose(Ints(), Ints()), pattern, Ints())
	expectMatch(t, loose(Never(), Int()), pattern, Int())
	expectMatch(t, loose(AnyBox(), AnyBox()), pattern, AnyBox())
	expectNoMatch(t, loose(Ints(), Int()), pattern)
	expectNoMatch(t, loose(Any(), Int()), pattern)
	expectNoMatch(t, loose(AnyBox(), Box(Int())), pattern)
	expectMatch(t, Exists(Any(), Tuple(Box(Variable(0)), Box(AnyBox()))), before, AnyBox())
	expectMatch(t, Exists(Int(), Tuple(Box(Variable(0)), Box(Exists(Ints(), Box(Variable(0)))))), before, Exists(Ints(), Box(Variable(0))))
	expectNoMatch(t, Exists(Any(), Tuple(Box(Variable(0)), Box(Exists(Ints(), Box(Variable(0)))))), before)
	expectNoMatch(t, Exists(Int(), Tuple(Box(Variable(0)), Box(Box(Int())))), before)
	// In the part, the variable has an invariant occurrence, or it has none.
	both := Exists(Ints(), Tuple(Variable(0), Box(Variable(0))))
	expectMatch(t, Exists(Ints(), Tuple(Tuple(Variable(0), Box(Variable(0))), Box(both))), before, both)
	expectMatch(t, Exists(Int(), Tuple(Tuple(Variable(0), Box(Variable(0))), Box(both))), before, both)
	expectNoMatch(t, Exists(Any(), Tuple(Tuple(Variable(0), Box(Variable(0))), Box(both))), before)
	pairs := Union(Tuple(Int(), Int()), Tuple(Int(), Bool()), Tuple(Bool(), Int()), Tuple(Bool(), Bool()))
	inner := Exists(Ints(), Tuple(Tuple(Variable(0), Variable(0)), Box(pairs), Box(Variable(0))))
	expectMatch(t, inner, pattern, pairs)
	inner.Args[1].Args[1] = Box(Union(pairs.Args[:3]...))
	expectNoMatch(t, inner, pattern)
}

// P5.2: an assigned term that is not closed is a variable, or a KindNamed term with arguments that agree.
// The only variable of a branch has the number 0, as it has the index 0 in the type.
func TestOpenAssignedTerms(t *testing.T) {
	before := Exists(Any(), Tuple(Variable(0), Box(Variable(0))))
	expectMatch(t, Exists(Int(), Tuple(Variable(0), Box(Variable(0)))), before, Variable(0))
	expectMatch(t, Exists(Ints(), Tuple(Variable(0), Box(Variable(0)))), before, Variable(0))
	// Another part is not a subtype of a rigid variable, not even another variable with the same bound or Never.
	for _, part := range []api.Type{Int(), Any(), Box(Variable(0)), Box(Int()), Tuple(), Tuple(Variable(0))} {
		expectNoMatch(t, Exists(Int(), Tuple(part, Box(Variable(0)))), before)
	}
	two := pairOf(Int(), Int(), Tuple(Variable(1), Box(Variable(0)), Box(Variable(1))))
	expectNoMatch(t, two, Exists(Any(), Tuple(Variable(0), Box(Variable(0)), Any())))
	expectMatch(t, two, Exists(Any(), Tuple(Variable(0), Any(), Box(Variable(0)))), Variable(0))
	for _, c := range []struct {
		part, argument api.Type
		ok             bool
	}{
		{Vec(Variable(0)), List(Variable(0)), true}, {Vec(Variable(0)), Vec(Variable(0)), true}, {List(Variable(0)), Vec(Variable(0)), false}, {Vec(Variable(0)), Named("Coll", Box(Variable(0))), true},
		{Named("Ring", Variable(0)), List(Box(Variable(0))), true}, {Named("Ring", Variable(0)), List(Variable(0)), false}, {Vec(Int()), List(Variable(0)), false}, {Vec(Box(Variable(0))), List(Variable(0)), false},
		{Variable(0), List(Variable(0)), false}, {Any(), List(Variable(0)), false}, {Tuple(Vec(Variable(0))), List(Variable(0)), false}, {Circle(), List(Variable(0)), false},
		{Named("Pair", Variable(0), Ints()), Named("Map", Variable(0), Box(Union(Int(), Bool()))), true}, {Named("Pair", Variable(0), Int()), Named("Map", Variable(0), Box(Bool())), false}, {Named("Swap", Ints(), Variable(0)), Named("Pair", Variable(0), Union(Int(), Bool())), true},
		{Named("List", Variable(0), Variable(0)), List(Variable(0)), false},
	} {
		b := Exists(List(Int()), Tuple(c.part, Box(c.argument)))
		if c.ok {
			expectMatch(t, b, before, c.argument)
		} else {
			expectNoMatch(t, b, before)
		}
	}
}

// P5.3: every assigned term has to be a subtype of the upper bound of its variable.
func TestUpperBounds(t *testing.T) {
	boxOf := func(bound api.Type) api.Type { return Exists(bound, Box(Variable(0))) }
	for _, c := range []struct {
		argument, bound api.Type
		ok              bool
	}{
		{Int(), Int(), true}, {Int(), Ints(), true}, {Int(), Bool(), false}, {Ints(), Ints(), true}, {Ints(), Int(), false}, {Circle(), Shape(), true}, {Shape(), Circle(), false},
		{Any(), Shape(), false}, {Any(), Any(), true}, {Never(), Circle(), true}, {Never(), Never(), true}, {Int(), Never(), false}, {Union(Circle(), Square()), Shape(), true},
		{Box(Int()), AnyBox(), true}, {AnyBox(), AnyBox(), true}, {AnyBox(), Box(Int()), false}, {Tuple(Int()), Tuple(Any()), true}, {Tuple(), Tuple(Any()), false}, {Vec(Int()), boxOf(Any()), false},
	} {
		if c.ok {
			expectMatch(t, Box(c.argument), boxOf(c.bound), c.argument)
			expectMatch(t, boxOf(c.argument), boxOf(c.bound), Variable(0))
		} else {
			expectNoMatch(t, Box(c.argument), boxOf(c.bound))
			expectNoMatch(t, boxOf(c.argument), boxOf(c.bound))
		}
	}
	expectMatch(t, boxOf(Ints()), boxOf(Union(Int(), Bool())), Variable(0))
	expectMatch(t, Exists(Int(), Box(Box(Variable(0)))), boxOf(boxOf(Ints())), Box(Variable(0)))
	expectNoMatch(t, Exists(Any(), Box(Box(Variable(0)))), boxOf(boxOf(Ints())))
	// The bound of each variable counts.
	two := func(first, second api.Type) api.Type {
		return pairOf(first, second, Tuple(Box(Variable(1)), Box(Variable(0))))
	}
	expectMatch(t, Tuple(Box(Int()), Box(Bool())), two(Int(), Bool()), Int(), Bool())
	expectNoMatch(t, Tuple(Box(Int()), Box(Bool())), two(Bool(), Bool()))
	expectNoMatch(t, Tuple(Box(Int()), Box(Bool())), two(Int(), Int()))
}

// P5.3: Match looks at the given branches only: it splits none.
func TestMatchDoesNotSplit(t *testing.T) {
	b := Exists(Ints(), Tuple(Variable(0), Box(Variable(0))))
	expectNoMatch(t, b, Exists(Any(), Tuple(Int(), Box(Variable(0)))))
	expectNoMatch(t, Exists(Int(), Tuple(Variable(0), Box(Variable(0)))), Exists(Any(), Tuple(Int(), Box(Variable(0)))))
	expectNoMatch(t, Exists(Int(), Tuple(Variable(0), Box(Variable(0)))), Tuple(Int(), Box(Int())))
	expectMatch(t, b, Exists(Any(), Tuple(Any(), Box(Variable(0)))), Variable(0))
	h := SampleHierarchy()
	if !subtype.IsSubtype(h, Exists(Int(), Tuple(Variable(0), Box(Variable(0)))), Exists(Any(), Tuple(Int(), Box(Variable(0))))) {
		t.Error("IsSubtype does not split")
	}
}

// P5.3: branches may have more variables and covariant occurrences than those of Expand.
func TestMatchOfLargeBranches(t *testing.T) {
	const count = 60
	b, p := Branch(Tuple()), Branch(Tuple())
	var want []api.Type
	for i := range count {
		b.Bounds = append(b.Bounds, Ints())
		p.Bounds = append(p.Bounds, Ints())
		b.Body.Args = append(b.Body.Args, Variable(count-1-i), Box(Variable(i)), Variable(i))
		p.Body.Args = append(p.Body.Args, Any(), Box(Variable(i)), Variable(i))
		want = append(want, Variable(i))
	}
	got, ok := subtype.Match(SampleHierarchy(), b, p)
	if !ok || !slices.EqualFunc(got, want, Same) {
		t.Errorf("Match of large branches = %s, %v", brief(got), ok)
	}
	p.Bounds[count-1] = Int()
	if got, ok := subtype.Match(SampleHierarchy(), b, p); ok || got != nil {
		t.Errorf("Match of large branches = %s, %v; want nil, false", brief(got), ok)
	}
}
