package typeterm_test

import (
	"math"
	"strings"
	"testing"

	"telpher/api"
	"telpher/typeterm"
	. "telpher/typetest"
)

// P2.1, P2.3: valid terms, with and without free variables.
func TestValidTerms(t *testing.T) {
	for _, x := range []api.Type{
		Any(), Never(), Int(), Tuple(), Variable(0), Variable(17),
		Named("a"), Named("any"), Named("Tuple"), Named("Union"), Named("Exists"), Named("never"), Named("Any1"), Named("exists_"), Named("A_b_9"),
		Named("Box", Variable(3)), Named("Map", Int(), Named("Box", Variable(0))),
		Named("Box", Exists(Any(), Tuple(Variable(0)))), Named("Box", Tuple(Int())), Named("Box", Any()),
		Tuple(Variable(2), Union(Variable(0), Variable(1))),
		Union(Any(), Any()), Union(Never(), Int(), Bool()),
		Exists(Any(), Variable(0)), Exists(Any(), Variable(5)), Exists(Int(), Int()), Exists(Never(), Tuple(Variable(0), Named("Box", Variable(0)))),
		Exists(Exists(Any(), Named("Box", Variable(0))), Variable(0)),
		bind(1, Exists(Named("Box", Int()), Tuple(Variable(0), Variable(1), Variable(2)))),
	} {
		expectValidate(t, x, api.OK)
	}
}

// P2.3: the limits of numbers, exactly.
func TestValidateLimits(t *testing.T) {
	longest := "X" + strings.Repeat("9", api.MaxWord-1)
	for _, x := range []api.Type{
		Variable(api.MaxNodes),
		Named(longest),
		Named("A", Repeat(api.MaxArgs, Int())...),
		Tuple(Repeat(api.MaxArgs, Int())...),
		Union(Repeat(api.MaxArgs+1, Int())...),
		Union(Repeat(api.MaxNodes-1, Int())...),
		Union(Tuple(Repeat(5, Int())...), Union(Repeat(api.MaxNodes-8, Int())...)),
		NestTuples(api.MaxTypeDepth-1, Int()),
		Union(Int(), NestTuples(api.MaxTypeDepth-2, Tuple()), Int()),
		bind(api.MaxTypeDepth-1, Variable(0)),
	} {
		expectValidate(t, x, api.OK)
	}
	for _, x := range []api.Type{
		Variable(api.MaxNodes + 1),
		Named(longest + "x"),
		Named("A", Repeat(api.MaxArgs+1, Int())...),
		Tuple(Repeat(api.MaxArgs+1, Int())...),
	} {
		expectValidate(t, x, api.ErrInvalid)
	}
	for _, x := range []api.Type{
		Union(Repeat(api.MaxNodes, Int())...),
		Union(Tuple(Repeat(5, Int())...), Union(Repeat(api.MaxNodes-7, Int())...)),
		Union(Union(Repeat(api.MaxNodes-7, Int())...), Tuple(Repeat(5, Int())...)),
		NestTuples(api.MaxTypeDepth, Int()),
		Union(Int(), NestTuples(api.MaxTypeDepth-1, Tuple()), Int()),
		bind(api.MaxTypeDepth, Variable(0)),
	} {
		expectValidate(t, x, api.ErrTooLong)
	}
}

// P2.3: a term that is too long is not examined any further.
func TestValidateOrder(t *testing.T) {
	for _, broken := range []api.Type{Node(-1), Named("1"), Variable(-1), {Index: 1}, Node(api.KindExists)} {
		expectValidate(t, Tuple(broken, NestTuples(api.MaxTypeDepth, Int())), api.ErrTooLong)
		expectValidate(t, Union(append(Repeat(api.MaxNodes, Int()), broken)...), api.ErrTooLong)
		expectValidate(t, NestTuples(api.MaxTypeDepth, broken), api.ErrTooLong)
		expectValidate(t, NestTuples(api.MaxTypeDepth-1, broken), api.ErrInvalid)
	}
	expectValidate(t, Tuple(Repeat(api.MaxNodes, Int())...), api.ErrTooLong)
	expectValidate(t, Node(api.KindAny, Repeat(api.MaxNodes, Int())...), api.ErrTooLong)
	expectValidate(t, Node(55, NestTuples(api.MaxTypeDepth-1, Int())), api.ErrTooLong)
}

// P2.3: Validate does not follow a term far beyond its limits (this one has 2^30 - 1 nodes).
func TestValidateStopsEarly(t *testing.T) {
	x := Int()
	for range 29 {
		x = Union(x, x)
	}
	for range 1000 {
		expectValidate(t, x, api.ErrTooLong)
	}
}

// malformed returns terms that violate P2.1 or P2.3 in one node.
func malformed() []api.Type {
	return []api.Type{
		// Unknown kinds.
		Node(-1), Node(api.KindExists + 1), Node(math.MinInt), Node(math.MaxInt), Node(8, Any()),
		// Fields that the kind does not use.
		{Kind: api.KindAny, Name: "x"}, {Kind: api.KindAny, Index: 1}, {Kind: api.KindAny, Index: -1}, Node(api.KindAny, Any()),
		{Kind: api.KindNever, Name: "x"}, {Kind: api.KindNever, Index: 1}, Node(api.KindNever, Any()),
		{Kind: api.KindNamed, Name: "A", Index: 1}, {Kind: api.KindNamed, Name: "A", Index: -1},
		{Kind: api.KindTuple, Name: "A"}, {Kind: api.KindTuple, Index: 1},
		{Kind: api.KindUnion, Name: "A", Args: Repeat(2, Int())}, {Kind: api.KindUnion, Index: 1, Args: Repeat(2, Int())},
		{Kind: api.KindVar, Name: "A"}, {Kind: api.KindVar, Args: Repeat(1, Any())}, {Kind: api.KindVar, Index: 1, Args: Repeat(2, Any())},
		{Kind: api.KindExists, Name: "A", Args: Repeat(2, Int())}, {Kind: api.KindExists, Index: 1, Args: Repeat(2, Int())},
		// Names.
		Named(""), Named("1a"), Named("_a"), Named("a-b"), Named("a b"), Named(" a"), Named("a\x00"), Named("\u00e9"), Named(strings.Repeat("x", 1<<16)),
		Named("Any"), Named("Never"), Named("tuple"), Named("union"), Named("exists"), Named("tuple", Int()), Named("exists", Any(), Variable(0)),
		// Numbers of arguments.
		Node(api.KindUnion), Union(Int()), Node(api.KindExists), Node(api.KindExists, Any()), Node(api.KindExists, Any(), Any(), Any()),
		// Indices.
		Variable(-1), Variable(math.MinInt), Variable(math.MaxInt),
		// Arguments that are not plain, and bounds that are not closed.
		Named("Box", Tuple(Variable(0))), Named("Box", Union(Variable(0), Int())), Named("Map", Int(), Tuple(Named("Box", Variable(0)))), Named("Box", Exists(Any(), Variable(1))),
		Named("Box", Tuple(Variable(199))),
		Exists(Variable(0), Any()), Exists(Named("Box", Variable(0)), Variable(0)), Exists(bind(1, Variable(1)), Any()), Exists(Tuple(Variable(3)), Variable(0)),
		// A bound may not refer to the variables around it either.
		bind(1, Exists(Variable(0), Variable(0))), bind(1, Exists(Named("Box", Variable(0)), Variable(1))), bind(2, Exists(Variable(1), Any())),
		// An argument may not contain a variable of a body around the nominal type in this way either.
		bind(1, Named("Box", Tuple(Variable(0)))),
	}
}

// P2.1, P2.3: a malformed node is found wherever it is.
func TestMalformedTerms(t *testing.T) {
	for _, x := range malformed() {
		for _, around := range []api.Type{
			x, Tuple(x), Tuple(Int(), Variable(0), x), Union(x, Int()), Union(Int(), Tuple(x)),
			Exists(x, Any()), Exists(Any(), x), Named("Box", x), Named("Map", Int(), Named("Box", x)),
			NestTuples(api.MaxTypeDepth-typeterm.Depth(x), x),
		} {
			expectValidate(t, around, api.ErrInvalid)
		}
	}
}
