package typeterm_test

import (
	"math"
	"strings"
	"testing"

	"telpher/api"
	"telpher/typeterm"
)

// P2.1, P2.3: valid terms, with and without free variables.
func TestValidTerms(t *testing.T) {
	for _, x := range []api.Type{
		anyType(), never(), intType(), tuple(), variable(0), variable(17),
		named("a"), named("any"), named("Tuple"), named("Union"), named("Exists"), named("never"), named("Any1"), named("exists_"), named("A_b_9"),
		named("Box", variable(3)), named("Map", intType(), named("Box", variable(0))),
		named("Box", exists(anyType(), tuple(variable(0)))), named("Box", tuple(intType())), named("Box", anyType()),
		tuple(variable(2), union(variable(0), variable(1))),
		union(anyType(), anyType()), union(never(), intType(), boolType()),
		exists(anyType(), variable(0)), exists(anyType(), variable(5)), exists(intType(), intType()), exists(never(), tuple(variable(0), named("Box", variable(0)))),
		exists(exists(anyType(), named("Box", variable(0))), variable(0)),
		bind(1, exists(named("Box", intType()), tuple(variable(0), variable(1), variable(2)))),
	} {
		expectValidate(t, x, api.OK)
	}
}

// P2.3: the limits of numbers, exactly.
func TestValidateLimits(t *testing.T) {
	longest := "X" + strings.Repeat("9", api.MaxWord-1)
	for _, x := range []api.Type{
		variable(api.MaxNodes),
		named(longest),
		named("A", repeat(api.MaxArgs, intType())...),
		tuple(repeat(api.MaxArgs, intType())...),
		union(repeat(api.MaxArgs+1, intType())...),
		union(repeat(api.MaxNodes-1, intType())...),
		union(tuple(repeat(5, intType())...), union(repeat(api.MaxNodes-8, intType())...)),
		nest(api.MaxTypeDepth-1, intType()),
		union(intType(), nest(api.MaxTypeDepth-2, tuple()), intType()),
		bind(api.MaxTypeDepth-1, variable(0)),
	} {
		expectValidate(t, x, api.OK)
	}
	for _, x := range []api.Type{
		variable(api.MaxNodes + 1),
		named(longest + "x"),
		named("A", repeat(api.MaxArgs+1, intType())...),
		tuple(repeat(api.MaxArgs+1, intType())...),
	} {
		expectValidate(t, x, api.ErrInvalid)
	}
	for _, x := range []api.Type{
		union(repeat(api.MaxNodes, intType())...),
		union(tuple(repeat(5, intType())...), union(repeat(api.MaxNodes-7, intType())...)),
		union(union(repeat(api.MaxNodes-7, intType())...), tuple(repeat(5, intType())...)),
		nest(api.MaxTypeDepth, intType()),
		union(intType(), nest(api.MaxTypeDepth-1, tuple()), intType()),
		bind(api.MaxTypeDepth, variable(0)),
	} {
		expectValidate(t, x, api.ErrTooLong)
	}
}

// P2.3: a term that is too long is not examined any further.
func TestValidateOrder(t *testing.T) {
	for _, broken := range []api.Type{node(-1), named("1"), variable(-1), {Index: 1}, node(api.KindExists)} {
		expectValidate(t, tuple(broken, nest(api.MaxTypeDepth, intType())), api.ErrTooLong)
		expectValidate(t, union(append(repeat(api.MaxNodes, intType()), broken)...), api.ErrTooLong)
		expectValidate(t, nest(api.MaxTypeDepth, broken), api.ErrTooLong)
		expectValidate(t, nest(api.MaxTypeDepth-1, broken), api.ErrInvalid)
	}
	expectValidate(t, tuple(repeat(api.MaxNodes, intType())...), api.ErrTooLong)
	expectValidate(t, node(api.KindAny, repeat(api.MaxNodes, intType())...), api.ErrTooLong)
	expectValidate(t, node(55, nest(api.MaxTypeDepth-1, intType())), api.ErrTooLong)
}

// P2.3: Validate does not follow a term far beyond its limits (this one has 2^30 - 1 nodes).
func TestValidateStopsEarly(t *testing.T) {
	x := intType()
	for range 29 {
		x = union(x, x)
	}
	for range 1000 {
		expectValidate(t, x, api.ErrTooLong)
	}
}

// malformed returns terms that violate P2.1 or P2.3 in one node.
func malformed() []api.Type {
	return []api.Type{
		// Unknown kinds.
		node(-1), node(api.KindExists + 1), node(math.MinInt), node(math.MaxInt), node(8, anyType()),
		// Fields that the kind does not use.
		{Kind: api.KindAny, Name: "x"}, {Kind: api.KindAny, Index: 1}, {Kind: api.KindAny, Index: -1}, node(api.KindAny, anyType()),
		{Kind: api.KindNever, Name: "x"}, {Kind: api.KindNever, Index: 1}, node(api.KindNever, anyType()),
		{Kind: api.KindNamed, Name: "A", Index: 1}, {Kind: api.KindNamed, Name: "A", Index: -1},
		{Kind: api.KindTuple, Name: "A"}, {Kind: api.KindTuple, Index: 1},
		{Kind: api.KindUnion, Name: "A", Args: repeat(2, intType())}, {Kind: api.KindUnion, Index: 1, Args: repeat(2, intType())},
		{Kind: api.KindVar, Name: "A"}, {Kind: api.KindVar, Args: repeat(1, anyType())}, {Kind: api.KindVar, Index: 1, Args: repeat(2, anyType())},
		{Kind: api.KindExists, Name: "A", Args: repeat(2, intType())}, {Kind: api.KindExists, Index: 1, Args: repeat(2, intType())},
		// Names.
		named(""), named("1a"), named("_a"), named("a-b"), named("a b"), named(" a"), named("a\x00"), named("\u00e9"), named(strings.Repeat("x", 1<<16)),
		named("Any"), named("Never"), named("tuple"), named("union"), named("exists"), named("tuple", intType()), named("exists", anyType(), variable(0)),
		// Numbers of arguments.
		node(api.KindUnion), union(intType()), node(api.KindExists), node(api.KindExists, anyType()), node(api.KindExists, anyType(), anyType(), anyType()),
		// Indices.
		variable(-1), variable(math.MinInt), variable(math.MaxInt),
		// Arguments that are not plain, and bounds that are not closed.
		named("Box", tuple(variable(0))), named("Box", union(variable(0), intType())), named("Map", intType(), tuple(named("Box", variable(0)))), named("Box", exists(anyType(), variable(1))),
		named("Box", tuple(variable(199))),
		exists(variable(0), anyType()), exists(named("Box", variable(0)), variable(0)), exists(bind(1, variable(1)), anyType()), exists(tuple(variable(3)), variable(0)),
		// A bound may not refer to the variables around it either.
		bind(1, exists(variable(0), variable(0))), bind(1, exists(named("Box", variable(0)), variable(1))), bind(2, exists(variable(1), anyType())),
		// An argument may not contain a variable of a body around the nominal type in this way either.
		bind(1, named("Box", tuple(variable(0)))),
	}
}

// P2.1, P2.3: a malformed node is found wherever it is.
func TestMalformedTerms(t *testing.T) {
	for _, x := range malformed() {
		for _, around := range []api.Type{
			x, tuple(x), tuple(intType(), variable(0), x), union(x, intType()), union(intType(), tuple(x)),
			exists(x, anyType()), exists(anyType(), x), named("Box", x), named("Map", intType(), named("Box", x)),
			nest(api.MaxTypeDepth-typeterm.Depth(x), x),
		} {
			expectValidate(t, around, api.ErrInvalid)
		}
	}
}
