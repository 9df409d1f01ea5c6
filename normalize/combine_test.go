package normalize_test

import (
	"math"
	"testing"

	"telpher/api"
	"telpher/hierarchy"
	"telpher/normalize"
	. "telpher/typetest"
)

func expectUnion(t *testing.T, h *hierarchy.Hierarchy, x, y, want api.Type, wantErr api.Errno) {
	t.Helper()
	if got, err := normalize.Union(h, x, y); err != wantErr || !Same(got, want) {
		t.Errorf("Union(%s, %s) = %s, error %d; want %s, error %d", Text(x), Text(y), Text(got), err, Text(want), wantErr)
	}
}

func expectTuple(t *testing.T, h *hierarchy.Hierarchy, l []api.Type, want api.Type, wantErr api.Errno) {
	t.Helper()
	if got, err := normalize.TupleOf(h, l); err != wantErr || !Same(got, want) {
		t.Errorf("TupleOf(%s) = %s, error %d; want %s, error %d", Text(Tuple(l...)), Text(got), err, Text(want), wantErr)
	}
}

// P6.2: Union normalizes the union.
func TestUnion(t *testing.T) {
	h := SampleHierarchy()
	for _, c := range []struct{ x, y, want api.Type }{
		{Int(), Bool(), Ints()}, {Int(), Int(), Int()}, {Never(), Int(), Int()}, {Never(), Never(), Never()}, {Circle(), Shape(), Shape()}, {Any(), Int(), Any()}, {Box(Int()), AnyBox(), AnyBox()}, {Union(Circle(), Int()), Union(Bool(), Square()), Union(Bool(), Circle(), Int(), Square())},
		{Union(Circle(), Int()), Shape(), Union(Int(), Shape())}, {Tuple(Int()), Tuple(), Union(Tuple(), Tuple(Int()))}, {Vec(Int()), List(Int()), List(Int())},
		{bind(Ints(), Variable(0), Box(Variable(0))), Union(bind(Any(), Bool(), Box(Variable(0))), bind(Any(), Int(), Box(Variable(0)))), Union(bind(Any(), Bool(), Box(Variable(0))), bind(Any(), Int(), Box(Variable(0))))},
	} {
		expectUnion(t, h, c.x, c.y, c.want, api.OK)
		expectUnion(t, h, c.y, c.x, c.want, api.OK)
	}
}

// P6.2: Union returns the error of Normalize, also if both types are normal.
func TestUnionWithoutRoom(t *testing.T) {
	h := with()
	expectUnion(t, h, sized(100), holder(sized(98)), Union(holder(sized(98)), sized(100)), api.OK)
	expectUnion(t, h, sized(100), holder(sized(99)), Any(), api.ErrTooLong)
	expectUnion(t, h, Int(), NestTuples(10, Int()), Union(Int(), NestTuples(10, Int())), api.OK)
	expectUnion(t, h, Int(), NestTuples(11, Int()), Any(), api.ErrTooLong)
	// 24 branches, of which the other type has as many.
	tuples := Union()
	for _, name := range []string{"Int", "Bool", "Nil", "String"} {
		for levels := range 6 {
			tuples.Args = append(tuples.Args, NestTuples(levels, Named(name)))
		}
	}
	expectUnion(t, h, tuples, tuples, Any(), api.ErrTooLong)
	expectUnion(t, h, tuples, Union(tuples.Args[:8]...), normalOf(t, h, tuples), api.OK)
	expectUnion(t, h, tuples, Union(tuples.Args[:9]...), Any(), api.ErrTooLong)
	expectUnion(t, h, Variable(0), Int(), Any(), api.ErrInvalid)
	expectUnion(t, h, Int(), Node(9), Any(), api.ErrInvalid)
	expectUnion(t, h, Int(), Named("Unknown"), Any(), api.ErrUnknownName)
	// The number of terms.
	h = chain()
	expectUnion(t, h, many(), link(11, Tuple(Int())), Union(link(11, Tuple(Int())), many()), api.OK)
	expectUnion(t, h, many(), link(10, Tuple(Int())), Any(), api.ErrTooLong)
	expectTuple(t, h, []api.Type{many(), link(11, Tuple(Int()))}, Tuple(many(), link(11, Tuple(Int()))), api.OK)
	expectTuple(t, h, []api.Type{many(), link(10, Tuple(Int()))}, Any(), api.ErrTooLong)
}

// P6.2: TupleOf normalizes the tuple.
func TestTupleOf(t *testing.T) {
	h := SampleHierarchy()
	expectTuple(t, h, nil, Tuple(), api.OK)
	expectTuple(t, h, []api.Type{}, Tuple(), api.OK)
	expectTuple(t, h, []api.Type{Int(), Tuple(Bool())}, Tuple(Int(), Tuple(Bool())), api.OK)
	expectTuple(t, h, []api.Type{Int(), Never()}, Never(), api.OK)
	expectTuple(t, h, []api.Type{Ints(), Any()}, Union(Tuple(Bool(), Any()), Tuple(Int(), Any())), api.OK)
	expectTuple(t, h, []api.Type{Int(), AnyBox()}, bind(Any(), Int(), Box(Variable(0))), api.OK)
	expectTuple(t, h, Repeat(6, Int()), Tuple(Repeat(6, Int())...), api.OK)
	// Redundant together with others, when combined.
	kept := bind(Ints(), Variable(0), Box(Variable(0)))
	others := Union(bind(Any(), Bool(), Box(Variable(0))), bind(Any(), Int(), Box(Variable(0))))
	expectTuple(t, h, []api.Type{Union(kept, others)}, Union(bind(Any(), Tuple(Bool(), Box(Variable(0)))), bind(Any(), Tuple(Int(), Box(Variable(0))))), api.OK)
}

// normalOf returns the normal form of a type that has one.
func normalOf(t *testing.T, h *hierarchy.Hierarchy, x api.Type) api.Type {
	t.Helper()
	normal, err := normalize.Normalize(h, x)
	if err != api.OK {
		t.Fatalf("Normalize(%s): error %d", Text(x), err)
	}
	return normal
}

// P6.2: TupleOf of too many types, and of types whose tuple has no room.
func TestTupleOfWithoutRoom(t *testing.T) {
	h := with()
	expectTuple(t, h, Repeat(7, Int()), Any(), api.ErrTooLong)
	expectTuple(t, h, Repeat(7, Node(9)), Any(), api.ErrTooLong)
	expectTuple(t, h, Repeat(7, Named("Unknown")), Any(), api.ErrTooLong)
	expectTuple(t, h, Repeat(100000, Int()), Any(), api.ErrTooLong)
	expectTuple(t, h, []api.Type{sized(100), sized(99)}, Tuple(sized(100), sized(99)), api.OK)
	expectTuple(t, h, []api.Type{sized(100), sized(100)}, Any(), api.ErrTooLong)
	expectTuple(t, h, []api.Type{NestTuples(11, Int())}, Any(), api.ErrTooLong)
	expectTuple(t, h, Repeat(6, Ints()), Any(), api.ErrTooLong)
	expectTuple(t, h, Repeat(5, Union(holder(Any()), holder(Int()))), Any(), api.ErrTooLong)
	expectTuple(t, h, []api.Type{Int(), Node(9)}, Any(), api.ErrInvalid)
	expectTuple(t, h, []api.Type{Variable(0)}, Any(), api.ErrInvalid)
	expectTuple(t, h, []api.Type{Named("Unknown")}, Any(), api.ErrUnknownName)
}

func expectComponent(t *testing.T, h *hierarchy.Hierarchy, x api.Type, k int, want api.Type) {
	t.Helper()
	if got, ok := normalize.Component(h, x, k); !ok || !Same(got, want) {
		t.Errorf("Component(%s, %d) = %s, %v; want %s", Text(x), k, Text(got), ok, Text(want))
	}
}

func expectNoComponent(t *testing.T, h *hierarchy.Hierarchy, x api.Type, k int) {
	t.Helper()
	if got, ok := normalize.Component(h, x, k); ok || !Same(got, Any()) {
		t.Errorf("Component(%s, %d) = %s, %v; want false", Text(x), k, Text(got), ok)
	}
}

// P6.2: Component is the normal form of the union of the elements of all branches.
func TestComponent(t *testing.T) {
	h := SampleHierarchy()
	expectComponent(t, h, Tuple(Int(), Bool()), 0, Int())
	expectComponent(t, h, Tuple(Int(), Bool()), 1, Bool())
	expectComponent(t, h, Tuple(Repeat(6, Any())...), 5, Any())
	expectComponent(t, h, Tuple(Int(), Tuple(Bool())), 1, Tuple(Bool()))
	expectComponent(t, h, Tuple(Box(Ints())), 0, Box(Ints()))
	of := Union(Tuple(Bool(), Circle()), Tuple(Int(), Int()), Tuple(Int(), Shape()), Tuple(Int(), Bool(), Tuple()))
	expectComponent(t, h, of, 0, Ints())
	expectComponent(t, h, of, 1, Union(Bool(), Int(), Shape()))
	expectNoComponent(t, h, of, 2)
	expectComponent(t, h, Union(Tuple(Int(), Any()), Tuple(Bool(), Int())), 1, Any())
}

// P6.2: a variable with an invariant occurrence in the element stays quantified, and any other is replaced by its upper bound.
func TestComponentVariables(t *testing.T) {
	h := SampleHierarchy()
	x := bind(Ints(), Variable(0), Box(Variable(0)), Tuple(Variable(0), Bool()), Tuple(Variable(0), Vec(Variable(0))), Int(), Named("Pair", Variable(0), Variable(0)))
	expectComponent(t, h, x, 0, Ints())
	expectComponent(t, h, x, 1, Exists(Ints(), Box(Variable(0))))
	expectNoComponent(t, h, x, 6)
	expectComponent(t, h, x, 2, Union(Tuple(Bool(), Bool()), Tuple(Int(), Bool())))
	expectComponent(t, h, x, 3, bind(Ints(), Variable(0), Vec(Variable(0))))
	expectComponent(t, h, x, 4, Int())
	expectComponent(t, h, x, 5, Exists(Ints(), Named("Pair", Variable(0), Variable(0))))
	// Two variables, of which an element has one or both.
	two := Exists(Shape(), Exists(Int(), Tuple(Box(Variable(1)), Box(Variable(0)), Tuple(Variable(1), Box(Variable(0))), Named("Pair", Variable(0), Variable(1)), Tuple(Variable(0), Variable(1)))))
	expectComponent(t, h, two, 0, Exists(Shape(), Box(Variable(0))))
	expectComponent(t, h, two, 1, Exists(Int(), Box(Variable(0))))
	expectComponent(t, h, two, 2, bind(Int(), Shape(), Box(Variable(0))))
	expectComponent(t, h, two, 3, Exists(Int(), Exists(Shape(), Named("Pair", Variable(1), Variable(0)))))
	expectComponent(t, h, two, 4, Tuple(Int(), Shape()))
	// Bounds with variables, and with several branches.
	nested := bind(Union(Int(), AnyBox()), Variable(0), Box(Variable(0)))
	expectComponent(t, h, nested, 0, Union(Int(), AnyBox()))
	expectComponent(t, h, nested, 1, Exists(Union(Int(), AnyBox()), Box(Variable(0))))
	expectComponent(t, h, bind(Never(), Int(), Box(Variable(0))), 0, Int())
	// The elements of several branches, of which one is redundant because of the two others.
	boxed := func(first api.Type) api.Type { return Tuple(first, Box(Variable(0))) }
	expectComponent(t, h, Union(bind(Any(), boxed(Bool()), Int()), bind(Any(), boxed(Int()), Bool()), bind(Ints(), boxed(Variable(0)), Circle())), 0, Union(bind(Any(), Bool(), Box(Variable(0))), bind(Any(), Int(), Box(Variable(0)))))
}

// P6.2: Component returns false without a branch, if a branch has no such element, and if the element has no normal form.
func TestNoComponent(t *testing.T) {
	h := SampleHierarchy()
	for _, x := range []api.Type{Tuple(Int(), Bool()), Tuple(), Never(), Int(), Any(), AnyBox(), Ints(), Union(Int(), Tuple(Int(), Int(), Int())), Union(Tuple(), Tuple(Int(), Int(), Int())), Box(Tuple(Int(), Int(), Int())), Exists(Any(), Tuple(Box(Variable(0))))} {
		expectNoComponent(t, h, x, -1)
		expectNoComponent(t, h, x, 2)
		expectNoComponent(t, h, x, 6)
		expectNoComponent(t, h, x, math.MinInt)
		expectNoComponent(t, h, x, math.MaxInt)
	}
	for _, x := range []api.Type{Tuple(), Never(), Int(), Any(), AnyBox(), Ints(), Union(Int(), Tuple(Int())), Union(Tuple(Int()), Any()), Union(Tuple(), Tuple(Int())), Box(Tuple(Int())), Tuple(Never())} {
		expectNoComponent(t, h, x, 0)
	}
	for _, x := range []api.Type{Variable(0), Node(9), Tuple(Variable(0)), Tuple(Node(9)), Tuple(Named("Unknown")), Tuple(Repeat(7, Int())...), wide(), Union(Tuple(Int())), NestTuples(12, Int())} {
		expectNoComponent(t, h, x, 0)
	}
	// A part of a branch may have more branches than a type.
	three := bind(Union(Bool(), Circle(), Int(), Square()), Tuple(Variable(0), Variable(0), Variable(0)), Box(Variable(0)))
	if !normalize.IsNormal(h, three) {
		t.Error("the type with three covariant occurrences is not normal")
	}
	expectNoComponent(t, h, three, 0)
	two := bind(Union(Bool(), Circle(), Int(), Square()), Tuple(Variable(0), Variable(0)), Box(Variable(0)))
	if x, ok := normalize.Component(h, two, 0); !ok || x.Kind != api.KindUnion || len(x.Args) != 16 || !normalize.IsNormal(h, x) {
		t.Errorf("Component with 16 branches = %s, %v", Text(x), ok)
	}
	expectComponent(t, h, two, 1, Exists(two.Args[0], Box(Variable(0))))
}
