package normalize_test

import (
	"testing"

	"telpher/api"
	"telpher/hierarchy"
	. "telpher/typetest"
)

// P6.1: the error of typeterm.Validate comes first.
func TestMalformedTypes(t *testing.T) {
	h := SampleHierarchy()
	unknown := Named("Unknown")
	tooLarge := Union(Repeat(200, Int())...)
	tooDeep := NestTuples(12, Int())
	for _, x := range []api.Type{
		tooLarge, tooDeep, Union(append(tooLarge.Args, Variable(0), Node(9), unknown)...), Tuple(tooDeep, Variable(0)), Tuple(unknown, tooDeep), Nest(12, Box, Node(-1)), Union(Any(), Union(Repeat(198, Never())...)),
	} {
		expectError(t, h, x, api.ErrTooLong)
	}
	for _, x := range []api.Type{
		Node(9), Node(-1), Union(), Union(Int()), Node(api.KindExists), Exists(Variable(0), Int()), Named("Any"), Named(""), Named("9"), Box(Exists(Any(), Variable(1))), Tuple(Repeat(7, Int())...), Box(Tuple(Variable(0))), {Name: "Int"}, {Index: 1},
		Tuple(unknown, Node(9)), Tuple(unknown, Variable(0), Node(9)), Variable(-1), Variable(201), Node(api.KindNever, Int()),
	} {
		expectError(t, h, x, api.ErrInvalid)
	}
}

// wide returns a type with 64 branches.
func wide() api.Type { return Tuple(Repeat(6, Ints())...) }

// P6.1: then types that are not closed, then those that the hierarchy does not know, and then the limits.
func TestErrorOrder(t *testing.T) {
	h := SampleHierarchy()
	unknown := Named("Unknown")
	for _, x := range []api.Type{
		Variable(0), Variable(3), Box(Variable(0)), Tuple(Variable(0), Int()), Exists(Any(), Variable(1)), Exists(Any(), Box(Variable(1))), Tuple(unknown, Variable(0)), Tuple(wide(), Variable(0)), Named("Unknown", Variable(0)),
	} {
		expectError(t, h, x, api.ErrInvalid)
	}
	for _, x := range []api.Type{
		unknown, Box(unknown), Named("Box"), Named("Int", Int()), Named("Box", Int(), Int()), Union(Any(), unknown), Tuple(Never(), unknown), Exists(unknown, Int()), Exists(Any(), Named("Unknown", Variable(0))), Exists(Any(), Named("Pair", Variable(0), Box(unknown))),
		Tuple(wide(), unknown), Tuple(unknown, wide()), Box(Tuple(wide(), unknown)), Exists(wide(), unknown), Named("int"),
	} {
		expectError(t, h, x, api.ErrUnknownName)
		expectError(t, nil, x, api.ErrUnknownName)
	}
	expectError(t, hierarchy.New(), Box(Int()), api.ErrUnknownName)
}

// P6.1, step 2: any error of Expand is ErrTooLong.
func TestExpandFails(t *testing.T) {
	h := SampleHierarchy()
	five := Union(Int(), Bool(), Circle(), Square(), Tuple())
	four := Union(five.Args[:4]...)
	vars := func(count int) api.Type {
		return Tuple(Tuple(Repeat(3, AnyBox())...), Tuple(Repeat(count-3, AnyBox())...))
	}
	covariant := func(count int) api.Type {
		return bind(Any(), Tuple(Repeat(count, Variable(0))...), Box(Variable(0)))
	}
	for _, x := range []api.Type{
		wide(), Tuple(Int(), wide()), Tuple(wide(), Never()), Union(Any(), wide()), vars(7), covariant(4), Exists(five, Box(Variable(0))), Union(Any(), vars(7)), Union(Any(), covariant(4)), Union(Any(), Exists(five, Box(Variable(0)))),
		Exists(Ints(), Tuple(Repeat(6, Variable(0))...)), Union(Repeat(33, Int())...), Exists(Any(), wide()),
	} {
		expectError(t, h, x, api.ErrTooLong)
		expectError(t, h, Box(x), api.ErrTooLong)
		expectError(t, h, Tuple(Never(), Box(Box(x))), api.ErrTooLong)
		expectError(t, h, Exists(x, Int()), api.ErrTooLong)
		expectError(t, h, Union(Any(), Exists(Any(), Named("Pair", x, Variable(0)))), api.ErrTooLong)
	}
	// At the limits.
	expectForm(t, h, Union(Repeat(32, Int())...), Int())
	expectForm(t, h, vars(6), Nest(5, func(t api.Type) api.Type { return Exists(Any(), t) }, bind(Any(), Tuple(Box(Variable(5)), Box(Variable(4)), Box(Variable(3))), Tuple(Box(Variable(2)), Box(Variable(1)), Box(Variable(0))))))
	expectNormal(t, h, covariant(3))
	expectForm(t, h, Exists(four, Box(Variable(0))), Exists(Union(Bool(), Circle(), Int(), Square()), Box(Variable(0))))
	expectForm(t, h, Exists(five, Variable(0)), Union(Bool(), Circle(), Int(), Square(), Tuple()))
	expectForm(t, h, Exists(five, Tuple(Int())), Tuple(Int()))
	// Of a bound, the normal form counts.
	expectForm(t, h, Exists(Union(Repeat(32, Int())...), Box(Variable(0))), Exists(Int(), Box(Variable(0))))
}

// P6.1, step 2: the union of all branches has to be valid, also if few of them remain.
func TestUnionOfBranches(t *testing.T) {
	h := SampleHierarchy()
	// 16 branches, each a tuple of four elements and one more.
	of := func(more api.Type) api.Type {
		return Union(Any(), Tuple(Union(Int(), Any()), Ints(), Ints(), Union(Any(), Any()), more))
	}
	// 1 node of the union, 1 of Any, and 16 times 5 and those of the fifth element.
	expectForm(t, h, of(sized(7)), Any())
	expectError(t, h, of(sized(8)), api.ErrTooLong)
	expectForm(t, h, Union(of(sized(7)), Tuple(Repeat(3, Int())...), Any()), Any())
	expectForm(t, h, Union(of(sized(7)), Tuple(Repeat(4, Int())...)), Any())
	expectError(t, h, Union(of(sized(7)), Tuple(Repeat(6, Int())...)), api.ErrTooLong)
	expectError(t, h, Box(of(sized(8))), api.ErrTooLong)
	expectForm(t, h, Box(of(sized(7))), Box(Any()))
	// With the quantifiers at the outside, a branch is deeper than the type.
	deep := func(boxes int) api.Type {
		return Tuple(Exists(Any(), Nest(boxes, Box, Variable(0))), Exists(Any(), Box(Variable(0))))
	}
	for _, x := range []api.Type{deep(9), Union(deep(8), Any()), Union(Int(), deep(8))} {
		expectError(t, h, x, api.ErrTooLong)
	}
	expectForm(t, h, Union(deep(7), Any()), Any())
	expectForm(t, h, deep(8), Exists(Any(), bind(Any(), Nest(8, Box, Variable(1)), Box(Variable(0)))))
}
