package subtype_test

import (
	"slices"
	"testing"

	"telpher/api"
	"telpher/dnf"
	"telpher/subtype"
	. "telpher/typetest"
)

// P5.4: the examples of the chapter.
func TestExamples(t *testing.T) {
	expectBelow(t, Box(Int()), AnyBox())
	expectUnrelated(t, Box(Int()), Box(Any()))
	s := Exists(Ints(), Tuple(Variable(0), Box(Variable(0))))
	expectBelow(t, s, Union(Tuple(Int(), AnyBox()), Tuple(Bool(), AnyBox())))
	b := only(t, s)
	if !subtype.BranchIsSubtype(SampleHierarchy(), b, Union(Tuple(Int(), AnyBox()), Tuple(Bool(), AnyBox()))) {
		t.Error("BranchIsSubtype does not split")
	}
}

// P5.4: ordinary types.
func TestOrdinaryTypes(t *testing.T) {
	expectBelow(t, Int(), Any())
	expectBelow(t, Never(), Int())
	expectBelow(t, Never(), Any())
	expectBelow(t, Circle(), Shape())
	expectBelow(t, Named("Text"), List(Int()))
	expectBelow(t, Tuple(), Any())
	expectBelow(t, Named("Ring", Ints()), List(Box(Ints())))
	expectUnrelated(t, Int(), Bool())
	expectUnrelated(t, Int(), Tuple(Int()))
	expectUnrelated(t, Tuple(Int()), Tuple(Int(), Int()))
	expectUnrelated(t, Vec(Int()), List(Any()))
	expectUnrelated(t, List(Int()), Vec(Any()))
	expectBelow(t, Exists(Circle(), Box(Variable(0))), Exists(Shape(), Box(Variable(0))))
	expectBelow(t, Exists(Shape(), Box(Variable(0))), AnyBox())
	expectBelow(t, Exists(Any(), Box(Box(Variable(0)))), AnyBox())
	expectBelow(t, Exists(Int(), Box(Variable(0))), Union(Exists(Int(), Box(Variable(0))), Exists(Bool(), Box(Variable(0)))))
	expectBelow(t, Exists(Any(), Tuple(Box(Variable(0)), Box(Variable(0)))), Tuple(AnyBox(), AnyBox()))
	expectEquivalent(t, Exists(Shape(), Variable(0)), Shape())
	expectEquivalent(t, Exists(Any(), Int()), Int())
	expectEquivalent(t, Exists(Int(), Tuple(Variable(0), Variable(0))), Tuple(Int(), Int()))
	expectEquivalent(t, Exists(Any(), Exists(Any(), Named("Map", Variable(0), Variable(1)))), Exists(Any(), Exists(Any(), Named("Map", Variable(1), Variable(0)))))
	expectEquivalent(t, Tuple(AnyBox(), AnyBox()), Exists(Any(), Exists(Any(), Tuple(Box(Variable(0)), Box(Variable(1))))))
	expectEquivalent(t, Never(), Tuple(Int(), Never()))
}

// P5.4: unions on both sides: each branch of the first type needs a branch of the second one.
func TestUnions(t *testing.T) {
	square := Square()
	expectBelow(t, Int(), Ints())
	expectBelow(t, Bool(), Ints())
	expectBelow(t, Ints(), Union(Circle(), Bool(), Int()))
	expectBelow(t, Ints(), Any())
	expectBelow(t, Union(Circle(), square), Shape())
	expectBelow(t, Union(Circle(), Int()), Union(Int(), Shape()))
	expectUnrelated(t, Union(Circle(), Int()), Union(Circle(), Bool()))
	expectUnrelated(t, Union(Circle(), Int()), Shape())
	expectEquivalent(t, Ints(), Union(Int(), Bool()))
	expectEquivalent(t, Union(Int(), Int()), Int())
	expectEquivalent(t, Union(Never(), Int()), Int())
	expectEquivalent(t, Union(Int(), Union(Circle(), Any())), Any())
	expectEquivalent(t, Union(Circle(), Shape()), Shape())
	expectEquivalent(t, Union(Box(Int()), AnyBox()), AnyBox())
	expectEquivalent(t, Tuple(Ints(), Int()), Union(Tuple(Int(), Int()), Tuple(Bool(), Int())))
	expectBelow(t, Tuple(Ints(), Ints()), Tuple(Ints(), Any()))
	expectBelow(t, Union(Tuple(Int(), Bool()), Tuple(Bool(), Int())), Tuple(Ints(), Ints()))
	expectUnrelated(t, Box(Ints()), Union(Box(Int()), Box(Bool())))
	expectUnrelated(t, Box(Int()), Box(Ints()))
	expectBelow(t, Exists(Ints(), Tuple(Variable(0), Variable(0))), Union(Tuple(Int(), Ints()), Tuple(Bool(), Ints()), Int()))
}

// splitting is a type whose covariant occurrences have to be split, together with types above it.
type splitting struct {
	t     api.Type
	above []api.Type
	not   []api.Type
}

func splittings() []splitting {
	boxed := func(elements ...api.Type) api.Type { return Tuple(append(elements, AnyBox())...) }
	one := Exists(Ints(), Tuple(Variable(0), Box(Variable(0))))
	two := Exists(Ints(), Tuple(Variable(0), Variable(0), Box(Variable(0))))
	pair := Exists(Ints(), Exists(Union(Shape(), Int()), Tuple(Variable(1), Variable(0), Box(Variable(0)), Box(Variable(1)))))
	// The bound has a covariant occurrence itself.
	deep := Exists(one, Tuple(Variable(0), Box(Variable(0))))
	single := Exists(Exists(Int(), Tuple(Variable(0), Box(Variable(0)))), Tuple(Variable(0), Box(Variable(0))))
	empty := Exists(Never(), Tuple(Variable(0), Box(Variable(0))))
	deepEmpty := Exists(empty, Tuple(Variable(0), Box(Variable(0))))
	return []splitting{
		{one, []api.Type{boxed(Ints()), Union(boxed(Int()), boxed(Bool())), Union(boxed(Int()), Tuple(Ints(), Any())), Exists(Any(), Tuple(Variable(0), Box(Variable(0))))}, []api.Type{boxed(Int()), boxed(Bool()), Never(), Union(boxed(Int()), boxed(Circle())), Tuple(Int(), Any())}},
		{two, []api.Type{boxed(Ints(), Ints()), Union(boxed(Int(), Any()), boxed(Bool(), Ints())), Union(boxed(Int(), Int()), boxed(Bool(), Bool()), boxed(Int(), Bool()), boxed(Bool(), Int()))}, []api.Type{Union(boxed(Int(), Int()), boxed(Bool(), Bool())), Union(boxed(Int(), Int()), boxed(Bool(), Bool()), boxed(Int(), Bool()))}},
		{pair, []api.Type{boxed(Any(), Any(), AnyBox()), Union(boxed(Int(), Shape(), AnyBox()), boxed(Any(), Int(), AnyBox()), boxed(Bool(), Shape(), Any()))}, []api.Type{Union(boxed(Int(), Circle(), AnyBox()), boxed(Any(), Int(), AnyBox())), Union(boxed(Int(), Shape(), AnyBox()), boxed(Any(), Int(), AnyBox()))}},
		{deep, []api.Type{boxed(boxed(Ints())), Union(boxed(boxed(Int())), boxed(boxed(Bool()))), boxed(one), boxed(Tuple(Any(), AnyBox()))}, []api.Type{boxed(boxed(Int())), Union(boxed(boxed(Int())), boxed(Int())), Tuple(Ints(), Any())}},
		{single, []api.Type{boxed(boxed(Int())), boxed(Exists(Int(), Tuple(Variable(0), Box(Variable(0)))))}, []api.Type{boxed(boxed(Bool())), boxed(Int())}},
		{empty, []api.Type{Never(), Int(), Tuple(Int()), boxed(Any())}, nil},
		{deepEmpty, []api.Type{Never(), Int(), boxed(Any())}, nil},
		{Exists(Union(Int(), empty), Tuple(Variable(0), Box(Variable(0)))), []api.Type{boxed(Int())}, []api.Type{Never(), boxed(Bool())}},
		{Tuple(one, Tuple(one)), []api.Type{Tuple(boxed(Ints()), Any()), Union(Tuple(boxed(Int()), Tuple(boxed(Bool()))), Tuple(boxed(Any()), Tuple(boxed(Int()))), Tuple(boxed(Bool()), Tuple(Tuple(Bool(), Any()))))}, []api.Type{Union(Tuple(boxed(Int()), Tuple(boxed(Bool()))), Tuple(boxed(Any()), Tuple(boxed(Int()))))}},
	}
}

// P5.4: a branch is a subtype if all branches of a split are.
func TestSplits(t *testing.T) {
	h := SampleHierarchy()
	for _, s := range splittings() {
		for _, above := range s.above {
			expectSubtype(t, h, s.t, above, true)
			expectSubtype(t, h, Tuple(s.t, Int()), Tuple(above, Int()), true)
		}
		for _, not := range s.not {
			expectSubtype(t, h, s.t, not, false)
			expectSubtype(t, h, Tuple(s.t), Tuple(not), false)
		}
	}
	// An occurrence in an argument is not split.
	expectUnrelated(t, Exists(Ints(), Box(Variable(0))), Union(Box(Int()), Box(Bool()), Circle()))
	expectSubtype(t, h, Exists(Never(), Box(Variable(0))), Never(), false)
}

// P5.4: a split may spoil the match of the variable itself, so that some occurrences are to be split and others not.
func TestSplitsThatSpoil(t *testing.T) {
	h := SampleHierarchy()
	kept := func(first, second, third api.Type) api.Type {
		return Exists(Any(), Tuple(first, second, Box(Variable(0)), third))
	}
	s := Exists(Ints(), Tuple(Variable(0), Variable(0), Box(Variable(0)), Int()))
	expectSubtype(t, h, s, kept(Variable(0), Variable(0), Any()), true)
	expectSubtype(t, h, s, Union(kept(Variable(0), Int(), Any()), kept(Variable(0), Bool(), Any())), true)
	expectSubtype(t, h, s, Union(kept(Int(), Variable(0), Any()), kept(Bool(), Variable(0), Any())), true)
	expectSubtype(t, h, s, Union(kept(Variable(0), Int(), Any()), kept(Bool(), Variable(0), Any())), false)
	// After the split of the second occurrence, that of the first one is needed in one of the branches and spoils the other.
	expectSubtype(t, h, s, Union(kept(Variable(0), Int(), Any()), kept(Int(), Bool(), Any()), kept(Bool(), Bool(), Any())), true)
	expectSubtype(t, h, s, Union(kept(Variable(0), Int(), Any()), kept(Int(), Bool(), Any()), kept(Circle(), Bool(), Any())), false)
	// Only the split of the second occurrence helps, which the terms assigned to the second variable show.
	five := Exists(Ints(), Tuple(Variable(0), Variable(0), Box(Variable(0)), Box(Int()), Box(Bool())))
	two := func(fourth, fifth api.Type) api.Type {
		return Exists(Any(), Exists(Any(), Tuple(Variable(1), Variable(0), Box(Variable(1)), fourth, fifth)))
	}
	expectSubtype(t, h, five, Union(two(Box(Variable(0)), Any()), two(Any(), Box(Variable(0)))), true)
	expectSubtype(t, h, five, Union(two(Box(Variable(0)), Any()), two(Box(Variable(0)), Any())), false)
	expectSubtype(t, h, five, Union(two(Box(Variable(0)), Any()), two(Any(), Box(Circle()))), false)
	// Each branch of t needs a split that spoils the other one, once the first occurrence has been split.
	three := Exists(Ints(), Exists(Box(Int()), Exists(Box(Bool()), Tuple(Variable(2), Variable(1), Variable(0), Box(Variable(2)), Box(Variable(1)), Box(Variable(0))))))
	first := Exists(Any(), Exists(Any(), Tuple(Variable(1), Box(Variable(1)), Variable(0), Any(), Any(), Box(Variable(0)))))
	second := Exists(Any(), Exists(Any(), Tuple(Variable(1), Variable(0), Box(Variable(1)), Any(), Box(Variable(0)), Any())))
	expectSubtype(t, h, three, Union(first, second), true)
	expectSubtype(t, h, three, first, false)
	expectSubtype(t, h, three, second, false)
}

// P5.4: what a variable of a branch of t is assigned may be known only after a split.
func TestSplitsThatAssign(t *testing.T) {
	h := SampleHierarchy()
	inFirst := func(bound, second api.Type) api.Type {
		return Exists(bound, Tuple(second, Variable(0), Box(Variable(0))))
	}
	pattern := Exists(Any(), Tuple(Variable(0), Box(Variable(0)), Any()))
	expectSubtype(t, h, inFirst(Box(Int()), Int()), pattern, true)
	expectSubtype(t, h, inFirst(Box(Ints()), Bool()), pattern, true)
	expectSubtype(t, h, inFirst(Box(Ints()), Tuple()), pattern, false)
	expectSubtype(t, h, inFirst(Union(Box(Int()), Box(Ints())), Int()), pattern, true)
	expectSubtype(t, h, inFirst(Union(Box(Bool()), Box(Ints())), Int()), pattern, false)
	expectSubtype(t, h, inFirst(Exists(Int(), Box(Variable(0))), Int()), pattern, false)
	// The part below the variable has to be split as well, because of another branch of t.
	s := Exists(Ints(), Exists(Union(Box(Int()), Box(Bool())), Tuple(Variable(1), Variable(0), Box(Variable(0)), Box(Variable(1)))))
	two := Exists(Any(), Tuple(Variable(0), Box(Variable(0)), Any(), Any()))
	other := func(first, second api.Type) api.Type { return Tuple(first, second, Any(), Any()) }
	expectSubtype(t, h, s, Union(two, other(Int(), Box(Bool())), other(Bool(), Box(Int()))), true)
	expectSubtype(t, h, s, Union(two, other(Int(), Box(Bool())), other(Bool(), Box(Ints()))), false)
	expectSubtype(t, h, s, Union(two, other(Int(), Any())), false)
	// An assigned term that is not closed, below which another part stands, does not keep from a split.
	open := func(first api.Type) api.Type {
		return Exists(Ints(), Exists(Any(), Tuple(first, Box(List(Variable(0))), Variable(1), Box(Variable(1)))))
	}
	third := func(third api.Type) api.Type {
		return Exists(Any(), Tuple(Variable(0), Box(Variable(0)), third, Any()))
	}
	expectSubtype(t, h, open(Vec(Variable(0))), Union(third(Int()), third(Bool())), true)
	expectSubtype(t, h, open(Vec(Int())), Union(third(Int()), third(Bool())), false)
}

// P5.4: the result is false if Expand fails for the second type, or for the first one of IsSubtype.
func TestExpandFails(t *testing.T) {
	h := SampleHierarchy()
	many := Union()
	for range 33 {
		many.Args = append(many.Args, Int())
	}
	tooMany := Tuple(Union(Repeat(6, Int())...), Union(Repeat(6, Int())...))
	vars := Tuple()
	for range 7 {
		vars.Args = append(vars.Args, AnyBox())
	}
	vars = Tuple(Tuple(vars.Args[:4]...), Tuple(vars.Args[4:]...))
	covariant := Exists(Any(), Tuple(Box(Variable(0)), Variable(0), Variable(0), Variable(0), Variable(0)))
	wideBound := Exists(Union(Circle(), Int(), Bool(), Named("Text"), Square()), Box(Variable(0)))
	failing := []api.Type{many, tooMany, vars, covariant, wideBound, Variable(0), Box(Variable(0)), Exists(Any(), Variable(1)), Union(Int()), Node(9), {Kind: api.KindAny, Name: "Any"}, Named("Box", Repeat(7, Int())...), Nest(12, Box, Int())}
	for _, x := range failing {
		if _, err := dnf.Expand(x); err == api.OK {
			t.Fatalf("Expand(%s) does not fail", brief(x))
		}
		expectUnrelated(t, x, x)
		for _, y := range []api.Type{Any(), Never(), Int(), Union(Any(), Int())} {
			expectUnrelated(t, x, y)
		}
		for _, b := range []api.Branch{Branch(Int()), Branch(Tuple()), Branch(Tuple(Variable(0), Box(Variable(0))), Never())} {
			if subtype.BranchIsSubtype(h, b, x) {
				t.Errorf("BranchIsSubtype(%v, %s) is true", b, brief(x))
			}
		}
	}
	// An argument that cannot be expanded is equivalent to nothing, but an assigned term may be one.
	for _, x := range []api.Type{tooMany, vars, covariant} {
		expectSubtype(t, h, Box(x), Box(x), false)
		expectSubtype(t, h, Box(x), AnyBox(), true)
		expectSubtype(t, h, Tuple(Box(x), Box(x)), Exists(Any(), Tuple(Box(Variable(0)), Box(Variable(0)))), false)
		expectSubtype(t, h, Tuple(Int(), Box(x)), Exists(Any(), Tuple(Variable(0), Box(Variable(0)))), false)
	}
}

// P5.4: no limits apply to parts, to splits and to assigned terms.
func TestNoLimits(t *testing.T) {
	h := SampleHierarchy()
	// The bound has 6 variables, so that the part has 12 of them, and so have the branches of splits.
	bound := Nest(6, func(t api.Type) api.Type { return Exists(Any(), t) }, Named("Six", Variable(5), Variable(4), Variable(3), Variable(2), Variable(1), Variable(0)))
	low := Exists(bound, Exists(bound, Tuple(Tuple(Variable(1), Variable(0)), Box(Any()), Vec(Variable(1)), Vec(Variable(0)))))
	high := Exists(Any(), Tuple(Variable(0), Box(Variable(0)), Any(), Any()))
	expectSubtype(t, h, low, high, true)
	expectSubtype(t, h, low, Tuple(Tuple(bound, Any()), Any(), Any(), Any()), true)
	expectSubtype(t, h, low, Tuple(Tuple(Any(), Box(bound)), Any(), Any(), Any()), false)
	// The split of one of 3 occurrences leaves 5 of them.
	three := Exists(Ints(), Tuple(Variable(0), Variable(0), Variable(0), Box(Variable(0))))
	nested := Exists(three, Tuple(Variable(0), Variable(0), Variable(0), Box(Variable(0))))
	expectSubtype(t, h, nested, Tuple(Any(), three, Any(), AnyBox()), true)
	expectSubtype(t, h, nested, Tuple(Tuple(Any(), Int(), Any(), Any()), three, Tuple(Any(), Ints(), Any(), AnyBox()), AnyBox()), false)
	expectSubtype(t, h, nested, Tuple(Tuple(Ints(), Ints(), Ints(), Any()), Any(), Tuple(Any(), Ints(), Any(), AnyBox()), AnyBox()), true)
	expectSubtype(t, h, nested, Tuple(three, Any(), Tuple(Any(), Int(), Any(), AnyBox()), AnyBox()), false)
	// A part may have more branches than a type.
	many := Tuple(Union(Int(), Circle()), Union(Int(), Circle()), Union(Int(), Circle()))
	parts := Exists(Union(Int(), Circle(), Bool(), Square()), Tuple(Tuple(Variable(0), Variable(0), Variable(0)), Box(Variable(0)), Box(many)))
	wide := Tuple(Repeat(3, Union(Int(), Shape(), Bool()))...)
	expectSubtype(t, h, parts, Exists(Any(), Tuple(Variable(0), Any(), Box(Variable(0)))), false)
	parts.Args[1].Args[2] = Box(wide)
	expectSubtype(t, h, parts, Exists(Any(), Tuple(Variable(0), Any(), Box(Variable(0)))), true)
	// And so may an argument of a declared supertype.
	Declare(h, api.Decl{Name: "Wide", Super: List(Tuple(many, many, Any()))})
	if _, err := dnf.Expand(Tuple(many, many, Any())); err != api.ErrTooLong {
		t.Fatal("the argument has too few branches")
	}
	expectSubtype(t, h, Named("Wide"), Exists(Tuple(Tuple(Any(), Union(Int(), Shape()), Any()), Any(), Any()), List(Variable(0))), true)
	expectSubtype(t, h, Named("Wide"), Exists(Tuple(Tuple(Any(), Int(), Any()), Any(), Any()), List(Variable(0))), false)
	expectSubtype(t, h, Named("Wide"), List(Tuple(many, many, Any())), false)
}

// P5.4: BranchIsSubtype looks at one branch, and Equivalent at both directions.
func TestBranchIsSubtype(t *testing.T) {
	h := SampleHierarchy()
	for _, s := range splittings() {
		for _, y := range slices.Concat(s.above, s.not) {
			l, _ := dnf.Expand(s.t)
			want := !slices.ContainsFunc(l, func(b api.Branch) bool { return !subtype.BranchIsSubtype(h, b, y) })
			expectSubtype(t, h, s.t, y, want)
			if both := want && subtype.IsSubtype(h, y, s.t); subtype.Equivalent(h, s.t, y) != both || subtype.Equivalent(h, y, s.t) != both {
				t.Errorf("Equivalent(%v, %v) is not %v", s.t, y, both)
			}
		}
	}
	x := Union(Int(), Tuple(Shape()))
	for _, c := range []struct {
		b    api.Branch
		want bool
	}{{Branch(Int()), true}, {Branch(Bool()), false}, {Branch(Tuple(Circle())), true}, {Branch(Tuple(Variable(0)), Circle()), true}, {Branch(Tuple(Variable(0)), Ints()), false}, {Branch(Any()), false}} {
		if subtype.BranchIsSubtype(h, c.b, x) != c.want {
			t.Errorf("BranchIsSubtype(%v, %v) is not %v", c.b, x, c.want)
		}
	}
}
