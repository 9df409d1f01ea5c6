package typeterm_test

import (
	"math"
	"slices"
	"testing"

	"telpher/api"
	"telpher/typeterm"
)

// P2.2: Size and Depth.
func TestMeasures(t *testing.T) {
	for _, c := range []struct {
		t           api.Type
		size, depth int
	}{
		{anyType(), 1, 1},
		{never(), 1, 1},
		{variable(3), 1, 1},
		{tuple(), 1, 1},
		{tuple(intType()), 2, 2},
		{tuple(intType(), intType()), 3, 2},
		{exists(anyType(), named("Box", variable(0))), 4, 3},
		{tuple(nest(3, intType()), intType()), 6, 5},
		{tuple(intType(), nest(3, intType())), 6, 5},
		{tuple(intType(), nest(3, intType()), tuple(intType())), 8, 5},
		{exists(union(intType(), boolType()), variable(0)), 5, 3},
		{nest(api.MaxTypeDepth+5, intType()), api.MaxTypeDepth + 6, api.MaxTypeDepth + 6},
		{union(repeat(1000, intType())...), 1001, 2},
		{node(99, node(-4, anyType())), 3, 3},
		{node(api.KindAny, anyType()), 2, 2},
		{node(api.KindVar, variable(0)), 2, 2},
		{node(api.KindExists, anyType(), anyType(), tuple(anyType())), 5, 3},
	} {
		if size, depth := typeterm.Size(c.t), typeterm.Depth(c.t); size != c.size || depth != c.depth {
			t.Errorf("Size and Depth of %v: %d, %d; want %d, %d", c.t, size, depth, c.size, c.depth)
		}
	}
}

// P2.1, P2.2: which variables are free.
func TestFreeVars(t *testing.T) {
	for _, c := range []struct {
		t    api.Type
		want []int
	}{
		{anyType(), nil},
		{variable(0), []int{0}},
		{variable(math.MaxInt), []int{math.MaxInt}},
		{tuple(variable(5), variable(2), variable(5), variable(10), variable(2)), []int{2, 5, 10}},
		{named("Map", variable(1), named("Box", variable(0))), []int{0, 1}},
		{exists(anyType(), named("Box", variable(0))), nil},
		{exists(anyType(), variable(1)), []int{0}},
		{exists(variable(0), variable(0)), []int{0}},
		{exists(variable(1), variable(1)), []int{0, 1}},
		{bind(2, tuple(variable(0), variable(1))), nil},
		{bind(2, tuple(variable(1), variable(2), variable(4))), []int{0, 2}},
		{bind(1, exists(variable(0), variable(1))), nil},
		{bind(1, exists(variable(1), variable(1))), []int{0}},
		{bind(100, tuple(variable(99), variable(100))), []int{0}},
		{tuple(bind(3, variable(3)), variable(3)), []int{0, 3}},
		{tuple(bind(3, variable(2)), variable(2)), []int{2}},
		// Malformed terms.
		{variable(-1), nil},
		{variable(math.MinInt), nil},
		{bind(2, variable(-1)), nil},
		{api.Type{Kind: api.KindTuple, Index: 4}, nil},
		{api.Type{Kind: api.KindNamed, Index: 4, Name: "A"}, nil},
		{node(api.KindExists), nil},
		{node(api.KindExists, variable(0)), []int{0}},
		{node(api.KindExists, variable(7), variable(0), variable(0)), []int{0, 7}},
		{node(api.KindExists, anyType(), variable(1), variable(1)), []int{0, 1}},
		{node(api.KindExists, anyType(), variable(0), anyType(), variable(3)), []int{3}},
		{node(12, anyType(), variable(0)), []int{0}},
		{node(api.KindAny, variable(6)), []int{6}},
		{api.Type{Kind: api.KindVar, Index: 2, Args: []api.Type{anyType(), variable(0)}}, []int{0, 2}},
	} {
		if got := typeterm.FreeVars(c.t); !slices.Equal(got, c.want) {
			t.Errorf("FreeVars(%v) = %v; want %v", c.t, got, c.want)
		}
	}
}

// P2.2: the names of all nominal types, also inside bounds and arguments.
func TestNames(t *testing.T) {
	for _, c := range []struct {
		t    api.Type
		want []string
	}{
		{anyType(), nil},
		{variable(0), nil},
		{tuple(never(), union(anyType(), variable(2))), nil},
		{intType(), []string{"Int"}},
		{named("Box", named("Box", intType())), []string{"Box", "Int"}},
		{exists(union(named("b"), named("B")), tuple(named("a"), named("A1"), named("A"), named("B"))), []string{"A", "A1", "B", "a", "b"}},
		{tuple(named("\xff"), named("\u00e9"), named("z"), named("")), []string{"", "z", "\u00e9", "\xff"}},
		{api.Type{Kind: api.KindTuple, Name: "T", Args: []api.Type{{Kind: 77, Name: "U", Args: []api.Type{named("V")}}}}, []string{"V"}},
		{node(api.KindVar, named("W")), []string{"W"}},
		{node(api.KindExists, anyType(), anyType(), named("X")), []string{"X"}},
	} {
		if got := typeterm.Names(c.t); !slices.Equal(got, c.want) {
			t.Errorf("Names(%v) = %q; want %q", c.t, got, c.want)
		}
	}
}

// P2.2: which terms may be arguments of nominal types.
func TestIsPlain(t *testing.T) {
	plain := []api.Type{
		anyType(), never(), variable(0), variable(1000), tuple(), intType(),
		tuple(intType(), union(boolType(), never())),
		exists(anyType(), named("Box", variable(0))),
		exists(anyType(), union(variable(0), intType())),
		named("Box", variable(0)),
		named("Map", variable(3), named("Box", named("Box", variable(1))), exists(anyType(), variable(0))),
		named("Box", tuple(intType(), intType())),
		// Malformed terms.
		variable(-1), named("", repeat(20, variable(0))...), api.Type{Kind: 50, Index: 3}, tuple(variable(-1)), node(api.KindExists, anyType()),
		node(api.KindVar, tuple(variable(0))),
	}
	for _, x := range plain {
		if !typeterm.IsPlain(x) || !typeterm.IsPlain(named("Box", intType(), x)) {
			t.Errorf("IsPlain(%v) = false", x)
		}
	}
	notPlain := []api.Type{
		tuple(variable(0)), union(intType(), variable(0)),
		tuple(named("Box", variable(0))),
		exists(anyType(), variable(1)),
		exists(variable(0), anyType()),
		bind(3, tuple(variable(3))),
		named("Map", intType(), tuple(variable(0))),
		named("Box", named("Box", exists(anyType(), named("Box", variable(1))))),
		// Malformed terms.
		node(50, variable(0)), node(api.KindExists, variable(0)), node(api.KindExists, anyType(), anyType(), variable(0)), node(api.KindAny, variable(0)),
	}
	for _, x := range notPlain {
		if typeterm.IsPlain(x) || typeterm.IsPlain(named("Box", intType(), x)) || typeterm.IsPlain(named("Box", x, intType())) {
			t.Errorf("IsPlain(%v) = true", x)
		}
	}
}

// P2.2: IsPlain follows its definition for malformed terms of every kind.
func TestIsPlainByDefinition(t *testing.T) {
	var isPlain func(x api.Type) bool
	isPlain = func(x api.Type) bool {
		closed := len(typeterm.FreeVars(x)) == 0
		notPlain := func(arg api.Type) bool { return !isPlain(arg) }
		return closed || x.Kind == api.KindVar || x.Kind == api.KindNamed && !slices.ContainsFunc(x.Args, notPlain)
	}
	for _, x := range oddTerms() {
		if got := typeterm.IsPlain(x); got != isPlain(x) {
			t.Errorf("IsPlain(%v) = %v", x, got)
		}
	}
}
