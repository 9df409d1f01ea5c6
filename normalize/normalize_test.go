package normalize_test

import (
	"testing"

	"telpher/api"
	"telpher/normalize"
	"telpher/subtype"
	. "telpher/typetest"
)

// P6.1: the examples of the chapter.
func TestExamples(t *testing.T) {
	h := SampleHierarchy()
	expectForm(t, h, Union(Int(), Union(Bool(), Int())), Union(Bool(), Int()))
	expectForm(t, h, Union(Box(Int()), AnyBox()), AnyBox())
}

// P6.1: ordinary types that are normal.
func TestNormalTypes(t *testing.T) {
	h := SampleHierarchy()
	for _, x := range []api.Type{
		Any(), Never(), Int(), Shape(), Ints(), Box(Int()), Box(Ints()), Box(Never()), Box(Any()), Box(AnyBox()), AnyBox(), Tuple(), Tuple(Int(), Any()), Box(Tuple()), Tuple(AnyBox().Args[0], Tuple(Int())),
		Exists(Never(), Box(Variable(0))), Exists(Ints(), Box(Variable(0))), bind(Ints(), Variable(0), Box(Variable(0))), bind(Shape(), Box(Variable(0)), Box(Variable(0))), Exists(Any(), bind(Int(), Box(Variable(1)), Box(Variable(0)))),
		Union(Box(Int()), Box(Ints())), Union(Tuple(Bool()), Tuple(Int())), Union(List(Int()), Vec(Bool())), Union(Any(), Any()).Args[0], Union(Int(), Tuple(), AnyBox()), Exists(Exists(Int(), Vec(Variable(0))), Box(Variable(0))),
	} {
		expectNormal(t, h, x)
	}
}

// P6.1: ordinary types that are not normal.
func TestNormalize(t *testing.T) {
	h := SampleHierarchy()
	for _, c := range []struct{ x, want api.Type }{
		{Union(Int(), Bool()), Ints()}, {Union(Int(), Int()), Int()}, {Union(Never(), Never()), Never()}, {Union(Never(), Int()), Int()}, {Union(Int(), Any()), Any()}, {Union(Any(), Any()), Any()},
		{Union(Circle(), Union(Square(), Shape())), Shape()}, {Union(Union(Int(), Square()), Union(Circle(), Bool())), Union(Bool(), Circle(), Int(), Square())},
		{Tuple(Never()), Never()}, {Tuple(Int(), Tuple(Never(), Any())), Never()}, {Tuple(Union(Int(), Bool()), Ints()), Union(Tuple(Bool(), Bool()), Tuple(Bool(), Int()), Tuple(Int(), Bool()), Tuple(Int(), Int()))},
		{Tuple(Union(Shape(), Circle())), Tuple(Shape())}, {Tuple(AnyBox()), bind(Any(), Box(Variable(0)))}, {Tuple(AnyBox(), AnyBox()), Exists(Any(), bind(Any(), Box(Variable(1)), Box(Variable(0))))},
		{Exists(Any(), Int()), Int()}, {Exists(Shape(), Variable(0)), Shape()}, {Exists(Ints(), Variable(0)), Ints()}, {Exists(Never(), Int()), Int()}, {Exists(Never(), Variable(0)), Never()}, {bind(Ints(), Variable(0), Int()), Union(Tuple(Bool(), Int()), Tuple(Int(), Int()))},
		{Exists(Any(), bind(Int(), Box(Variable(0)), Box(Variable(1)))), Exists(Int(), bind(Any(), Box(Variable(1)), Box(Variable(0))))}, {Exists(Any(), Union(Int(), Box(Variable(0)))), Union(Int(), AnyBox())}, {Exists(Any(), Exists(Any(), Box(Variable(1)))), AnyBox()},
		{Union(Vec(Int()), List(Int())), List(Int())}, {Union(Named("Text"), List(Int()), List(Bool())), Union(List(Bool()), List(Int()))}, {Union(Exists(Int(), Box(Variable(0))), Exists(Any(), Box(Variable(0)))), AnyBox()},
	} {
		expectForm(t, h, c.x, c.want)
	}
}

// P6.1, step 1: closed arguments are replaced by their normal forms, innermost first.
func TestArguments(t *testing.T) {
	h := SampleHierarchy()
	swapped := Union(Int(), Bool())
	for _, c := range []struct{ x, want api.Type }{
		{Box(swapped), Box(Ints())}, {Box(Union(Int(), Int())), Box(Int())}, {Box(Tuple(Never())), Box(Never())}, {Box(Box(swapped)), Box(Box(Ints()))}, {Box(Tuple(Box(swapped))), Box(Tuple(Box(Ints())))}, {Tuple(Box(swapped), Int()), Tuple(Box(Ints()), Int())},
		{Union(Box(swapped), Box(Ints())), Box(Ints())}, {Named("Map", swapped, Exists(Any(), Int())), Named("Map", Ints(), Int())},
		// Only when Box[swapped] has been replaced, the union is Box[Ints].
		{Box(Union(Box(swapped), Box(Ints()))), Box(Box(Ints()))}, {Box(Union(Box(Union(Shape(), Circle())), Box(Shape()))), Box(Box(Shape()))},
		// The order depends on the terms that have been replaced.
		{Union(Box(Union(Int(), Int())), Box(Bool())), Union(Box(Bool()), Box(Int()))}, {Box(Union(Box(Tuple(Never())), Box(Int()))), Box(Union(Box(Never()), Box(Int())))},
		{Box(Exists(Shape(), Tuple(Variable(0)))), Box(Tuple(Shape()))}, {Box(Exists(swapped, Box(Variable(0)))), Box(Exists(Ints(), Box(Variable(0))))}, {Box(Union(Box(Int()), AnyBox())), Box(AnyBox())},
	} {
		expectForm(t, h, c.x, c.want)
	}
}

// P6.1, step 1: in an argument that is not closed, its own arguments are treated in the same way.
func TestOpenArguments(t *testing.T) {
	h := SampleHierarchy()
	swapped := Union(Int(), Bool())
	pair := func(x, y api.Type) api.Type { return Named("Pair", x, y) }
	for _, c := range []struct{ x, want api.Type }{
		{pair(swapped, Variable(0)), pair(Ints(), Variable(0))}, {pair(Variable(0), Box(swapped)), pair(Variable(0), Box(Ints()))}, {pair(pair(Variable(0), swapped), Int()), pair(pair(Variable(0), Ints()), Int())},
		{Box(pair(Box(pair(swapped, Variable(0))), swapped)), Box(pair(Box(pair(Ints(), Variable(0))), Ints()))}, {pair(Box(Variable(0)), Exists(swapped, Box(Variable(0)))), pair(Box(Variable(0)), Exists(Ints(), Box(Variable(0))))},
		{Tuple(Box(pair(Variable(0), Union(Int(), Int())))), Tuple(Box(pair(Variable(0), Int())))},
	} {
		expectForm(t, h, Exists(Any(), c.x), Exists(Any(), c.want))
	}
	// The variable of a quantifier that is left out does not count.
	expectForm(t, h, Exists(Shape(), Exists(Any(), pair(Variable(0), swapped))), Exists(Any(), pair(Variable(0), Ints())))
}

// P6.1, step 1: upper bounds are replaced by their normal forms, innermost first.
func TestBounds(t *testing.T) {
	h := SampleHierarchy()
	swapped := Union(Int(), Bool())
	boxed := func(bound api.Type) api.Type { return Exists(bound, Box(Variable(0))) }
	for _, c := range []struct{ x, want api.Type }{
		{swapped, Ints()}, {Union(Int(), Any()), Any()}, {Tuple(Never()), Never()}, {Box(swapped), Box(Ints())}, {boxed(swapped), boxed(Ints())}, {Exists(swapped, Variable(0)), Ints()}, {boxed(boxed(Exists(Any(), Int()))), boxed(boxed(Int()))},
		{Union(boxed(swapped), boxed(Ints())), boxed(Ints())}, {Exists(Never(), Variable(0)), Never()}, {bind(Tuple(Never()), Variable(0), Box(Variable(0))), Never()}, {boxed(Union(Box(swapped), Box(Ints()))), boxed(Box(Ints()))},
	} {
		expectForm(t, h, boxed(c.x), boxed(c.want))
	}
	expectForm(t, h, Tuple(Exists(Union(Int(), Int()), Variable(0))), Tuple(Int()))
	expectForm(t, h, bind(swapped, Variable(0), Exists(Tuple(Union(Shape(), Circle())), Named("Pair", Variable(0), Variable(1)))), Exists(Ints(), Exists(Tuple(Shape()), Tuple(Variable(1), Named("Pair", Variable(0), Variable(1))))))
	// A bound has at most four branches when it is normal.
	five := Union(Int(), Bool(), Union(Int(), Square(), Circle()))
	expectForm(t, h, boxed(five), boxed(Union(Bool(), Circle(), Int(), Square())))
}

// P6.1, step 3: branches that are subtypes of the union of several others.
func TestRedundantTogether(t *testing.T) {
	h := SampleHierarchy()
	kept := bind(Ints(), Variable(0), Box(Variable(0)))
	with := func(first api.Type) api.Type { return bind(Any(), first, Box(Variable(0))) }
	expectForm(t, h, Union(kept, with(Int()), with(Bool())), Union(with(Bool()), with(Int())))
	expectForm(t, h, Union(with(Int()), kept, with(Bool())), Union(with(Bool()), with(Int())))
	expectForm(t, h, Union(with(Int()), with(Bool()), kept), Union(with(Bool()), with(Int())))
	expectForm(t, h, Union(kept, with(Int())), Union(with(Int()), kept))
	expectForm(t, h, Union(kept, with(Int()), with(Shape())), Union(with(Int()), with(Shape()), kept))
	// Any of the others may be redundant itself.
	expectForm(t, h, Union(kept, with(Int()), with(Bool()), with(Ints())), Union(with(Bool()), with(Int())))
	expectForm(t, h, Union(kept, with(Int()), with(Bool()), with(Any())), with(Any()))
	// Branches are removed one by one: of two equal ones, one remains.
	expectForm(t, h, Union(kept, kept, kept), kept)
	expectForm(t, h, Union(Circle(), Shape(), Circle(), Shape()), Shape())
	expectForm(t, h, Union(AnyBox(), Box(Int()), AnyBox()), AnyBox())
	// Several splits, inside tuples.
	two := Exists(Ints(), Tuple(Tuple(Variable(0), Variable(0)), Box(Variable(0))))
	of := func(first, second api.Type) api.Type { return Tuple(Tuple(first, second), AnyBox()) }
	four := Union(of(Int(), Int()), of(Int(), Bool()), of(Bool(), Int()), of(Bool(), Bool()))
	got, err := normalize.Normalize(h, Union(two, four))
	if want, _ := normalize.Normalize(h, four); err != api.OK || !Same(got, want) || len(want.Args) != 4 {
		t.Errorf("Normalize of a branch with two splits = %v, error %d", got, err)
	}
	three := Union(of(Int(), Int()), of(Int(), Bool()), of(Bool(), Bool()))
	if got, err = normalize.Normalize(h, Union(three, two)); err != api.OK || len(got.Args) != 4 {
		t.Errorf("Normalize without one of four branches = %v, error %d", got, err)
	}
}

// P6.1, step 3: the branches are examined in order. With an argument of a supertype that Expand
// refuses, the relation is not transitive: Odd is below each Mid and each Mid below some Top, but
// Odd is below no Top.
func TestOrderOfExamination(t *testing.T) {
	h := SampleHierarchy()
	Declare(h, api.Decl{Name: "Top", Arity: 2}, api.Decl{Name: "Mid", Arity: 1, Super: Named("Top", Variable(0), Variable(0))}, api.Decl{Name: "Odd", Super: Named("Mid", wide())})
	odd, mid, top := Named("Odd"), Exists(Any(), Named("Mid", Variable(0))), Exists(Any(), Named("Top", Variable(0), Variable(0)))
	both := Union(odd, top)
	for _, c := range []struct {
		members []api.Type
		want    api.Type
	}{
		{[]api.Type{odd, mid, top}, top}, {[]api.Type{odd, top, mid}, top}, {[]api.Type{top, odd, mid}, top}, {[]api.Type{mid, odd, top}, both}, {[]api.Type{mid, top, odd}, both}, {[]api.Type{top, mid, odd}, both}, {[]api.Type{odd, mid}, mid}, {[]api.Type{top, odd}, both},
	} {
		expectForm(t, h, Union(c.members...), c.want)
		expectForm(t, h, Box(Union(c.members...)), Box(c.want))
	}
}

// P6.1, step 3: a branch with a covariant occurrence of a variable whose upper bound is Never is removed.
func TestNeverBound(t *testing.T) {
	h := SampleHierarchy()
	empty := bind(Never(), Variable(0), Box(Variable(0)))
	for _, x := range []api.Type{
		empty, Tuple(Int(), empty), Union(empty, empty), bind(Never(), Tuple(Int(), Tuple(Variable(0))), Box(Variable(0))), Exists(empty, Variable(0)),
		bind(Tuple(Never()), Variable(0), Box(Variable(0))), Exists(Any(), bind(Never(), Box(Variable(1)), Variable(0), Variable(1), Box(Variable(0)))), bind(empty, Variable(0), Box(Variable(0))), Exists(Never(), Tuple(Box(Variable(0)), Variable(0))),
	} {
		expectForm(t, h, x, Never())
		expectForm(t, h, Union(x, Int()), Int())
		expectForm(t, h, Union(Int(), x, Tuple(Bool())), Union(Int(), Tuple(Bool())))
		expectForm(t, h, Box(x), Box(Never()))
		expectForm(t, h, Exists(x, Box(Variable(0))), Exists(Never(), Box(Variable(0))))
	}
	// An occurrence in an argument is not covariant.
	expectNormal(t, h, Exists(Never(), Box(Variable(0))))
	expectForm(t, h, Union(Tuple(), Exists(Never(), Box(Variable(0)))), Union(Tuple(), Exists(Never(), Box(Variable(0)))))
}

// P6.1, step 4: the branches are in ascending order of their types.
func TestOrder(t *testing.T) {
	h := SampleHierarchy()
	sorted := Union(Bool(), Box(Bool()), Box(Box(Int())), Box(Int()), Box(Tuple(Int())), Circle(), Int(), Named("Map", Int(), Int()), Tuple(), Tuple(Int()), Tuple(Tuple()), Tuple(Bool(), Int()), Tuple(Int(), Bool()),
		Exists(Any(), Vec(Variable(0))), bind(Any(), Box(Variable(0))), bind(Any(), Vec(Variable(0))), Exists(Any(), Exists(Int(), Named("Swap", Variable(1), Variable(0)))), Exists(Int(), List(Variable(0))))
	expectNormal(t, h, sorted)
	g := NewGenerator(61)
	for range 100 {
		shuffled := Union(append([]api.Type{}, sorted.Args...)...)
		Shuffle(g, shuffled.Args)
		expectForm(t, h, shuffled, sorted)
		expectForm(t, h, Box(shuffled), Box(sorted))
	}
	// The order is that of the types of the branches, and not that of the bodies.
	expectForm(t, h, Union(Exists(Any(), Vec(Variable(0))), Tuple()), Union(Tuple(), Exists(Any(), Vec(Variable(0)))))
}

// P6.1: IsNormal of types that are not normal, also inside, and of malformed terms.
func TestIsNotNormal(t *testing.T) {
	h := SampleHierarchy()
	for _, x := range []api.Type{
		Union(Int(), Bool()), Union(Int(), Int()), Union(Bool(), Union(Circle(), Int())), Union(Never(), Int()), Union(Circle(), Shape()), Tuple(Never()), Tuple(Ints()), Tuple(AnyBox()), Box(Union(Int(), Bool())), Box(Tuple(Ints())), Exists(Any(), Int()),
		Exists(Int(), Variable(0)), Exists(Any(), Exists(Any(), Named("Pair", Variable(0), Variable(1)))), Exists(Union(Int(), Bool()), Box(Variable(0))), Exists(Any(), Named("Pair", Variable(0), Union(Int(), Bool()))), bind(Never(), Variable(0), Box(Variable(0))),
		Named("Unknown"), Named("Box"), Named("Int", Int()), Variable(0), Box(Variable(0)), Exists(Variable(0), Int()), Union(), Union(Int()), Node(9), Node(-1), Named("Any"), Named(""), {Name: "Int"}, {Index: 1}, {Args: []api.Type{Any()}}, {Kind: api.KindNever, Name: "x"},
		{Kind: api.KindNamed, Name: "Int", Index: 1}, {Kind: api.KindTuple, Name: "Int"}, Node(api.KindExists), Node(api.KindExists, Any()), Node(api.KindExists, Any(), Int(), Int()), Tuple(Repeat(7, Int())...), Box(Exists(Any(), Variable(1))), Nest(12, Box, Int()), Variable(-1),
	} {
		if normalize.IsNormal(h, x) {
			t.Errorf("IsNormal(%s) is true", Text(x))
		}
	}
}

// P6.3: equivalent types may have different normal forms, but here they are the same.
func TestEquivalentTypes(t *testing.T) {
	h := SampleHierarchy()
	for _, c := range []struct{ x, y api.Type }{
		{Tuple(Ints(), Int()), Union(Tuple(Int(), Int()), Tuple(Bool(), Int()))}, {Tuple(AnyBox(), AnyBox()), Exists(Any(), Exists(Any(), Tuple(Box(Variable(0)), Box(Variable(1)))))}, {Box(Tuple(Ints())), Box(Union(Tuple(Int()), Tuple(Bool())))}, {Exists(Int(), Tuple(Variable(0), Variable(0))), Tuple(Int(), Int())},
	} {
		x, _ := normalize.Normalize(h, c.x)
		y, _ := normalize.Normalize(h, c.y)
		if !Same(x, y) || !subtype.Equivalent(h, x, c.y) || !subtype.Equivalent(h, c.x, y) {
			t.Errorf("Normalize(%v) = %v and Normalize(%v) = %v", c.x, x, c.y, y)
		}
	}
}
