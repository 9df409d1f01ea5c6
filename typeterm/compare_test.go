package typeterm_test

import (
	"cmp"
	"math"
	"slices"
	"testing"

	"telpher/api"
	"telpher/typeterm"
)

// P2.4: Compare examines Kind, Name, Index, the number of Args and the Args, in this order.
func TestCompareOrder(t *testing.T) {
	ascending := []api.Type{
		{Kind: math.MinInt, Name: "z", Index: 9, Args: repeat(9, intType())},
		{Kind: -1, Name: "z", Index: 9, Args: repeat(9, intType())},
		anyType(), {Index: 1}, {Name: "a"},
		never(),
		{Kind: api.KindNamed, Index: math.MinInt}, {Kind: api.KindNamed, Index: -1}, named(""),
		named("A"), named("A", anyType()), named("A", intType()), named("A", variable(0)), named("A", anyType(), anyType()),
		{Kind: api.KindNamed, Name: "A", Index: 1}, {Kind: api.KindNamed, Name: "A", Index: 10}, {Kind: api.KindNamed, Name: "A", Index: math.MaxInt},
		named("A1"), named("AB"), named("A_"), named("Aa"), named("B"), named("a"), named("\u00e9"), named("\xff"),
		tuple(), tuple(variable(5)), tuple(variable(10)), tuple(anyType(), anyType()), tuple(anyType(), never()), tuple(never(), anyType()), tuple(never(), never()),
		tuple(tuple(intType()), tuple(boolType())), tuple(tuple(intType()), tuple(intType())),
		union(anyType(), anyType()),
		variable(math.MinInt), variable(-1), variable(0), variable(2), variable(10), variable(math.MaxInt),
		exists(anyType(), variable(0)), exists(anyType(), variable(1)), exists(intType(), anyType()),
		node(api.KindExists + 1), node(math.MaxInt), {Kind: math.MaxInt, Name: "a"},
	}
	for i, a := range ascending {
		for j, b := range ascending {
			if got := typeterm.Compare(a, b); got != cmp.Compare(i, j) {
				t.Errorf("Compare(%v, %v) = %d", a, b, got)
			}
			if got := typeterm.Equal(a, b); got != (i == j) {
				t.Errorf("Equal(%v, %v) = %v", a, b, got)
			}
		}
	}
}

// P2.5: Compare is a total order, and 0 exactly for equal terms: sorting by it puts
// all pairs in order.
func TestCompareIsTotal(t *testing.T) {
	terms := oddTerms()
	slices.SortFunc(terms, typeterm.Compare)
	terms = slices.CompactFunc(terms, same)
	for i, a := range terms {
		for j, b := range terms {
			if typeterm.Compare(a, b) != cmp.Compare(i, j) || typeterm.Equal(a, b) != same(a, b) {
				t.Fatalf("Compare(%v, %v) = %d, Equal %v; sorted at %d and %d", a, b, typeterm.Compare(a, b), typeterm.Equal(a, b), i, j)
			}
		}
	}
}

// P2.4: Equal and Compare see a difference in each field at any depth.
func TestOneDifference(t *testing.T) {
	deep := func(inner api.Type) api.Type {
		return tuple(intType(), exists(anyType(), union(named("Map", variable(0), inner), boolType())))
	}
	plain := api.Type{Kind: 2, Name: "A", Index: 1, Args: []api.Type{intType()}}
	for _, other := range []api.Type{
		{Kind: 3, Name: "A", Index: 1, Args: []api.Type{intType()}},
		{Kind: 2, Name: "B", Index: 1, Args: []api.Type{intType()}},
		{Kind: 2, Name: "A", Index: 2, Args: []api.Type{intType()}},
		{Kind: 2, Name: "A", Index: 1, Args: []api.Type{variable(0)}},
		{Kind: 2, Name: "A", Index: 1, Args: repeat(2, intType())},
	} {
		a, b := deep(plain), deep(other)
		if typeterm.Equal(a, b) || typeterm.Equal(b, a) || typeterm.Compare(a, b) != -1 || typeterm.Compare(b, a) != 1 {
			t.Errorf("%v and %v: Equal %v, Compare %d", a, b, typeterm.Equal(a, b), typeterm.Compare(a, b))
		}
	}
	if a, b := deep(plain), deep(plain); !typeterm.Equal(a, b) || typeterm.Compare(a, b) != 0 {
		t.Error("equal terms in different memory differ")
	}
}
