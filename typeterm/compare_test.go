package typeterm_test

import (
	"cmp"
	"math"
	"slices"
	"testing"

	"telpher/api"
	"telpher/typeterm"
	. "telpher/typetest"
)

// P2.4: Compare examines Kind, Name, Index, the number of Args and the Args, in this order.
func TestCompareOrder(t *testing.T) {
	ascending := []api.Type{
		{Kind: math.MinInt, Name: "z", Index: 9, Args: Repeat(9, Int())},
		{Kind: -1, Name: "z", Index: 9, Args: Repeat(9, Int())},
		Any(), {Index: 1}, {Name: "a"},
		Never(),
		{Kind: api.KindNamed, Index: math.MinInt}, {Kind: api.KindNamed, Index: -1}, Named(""),
		Named("A"), Named("A", Any()), Named("A", Int()), Named("A", Variable(0)), Named("A", Any(), Any()),
		{Kind: api.KindNamed, Name: "A", Index: 1}, {Kind: api.KindNamed, Name: "A", Index: 10}, {Kind: api.KindNamed, Name: "A", Index: math.MaxInt},
		Named("A1"), Named("AB"), Named("A_"), Named("Aa"), Named("B"), Named("a"), Named("\u00e9"), Named("\xff"),
		Tuple(), Tuple(Variable(5)), Tuple(Variable(10)), Tuple(Any(), Any()), Tuple(Any(), Never()), Tuple(Never(), Any()), Tuple(Never(), Never()),
		Tuple(Tuple(Int()), Tuple(Bool())), Tuple(Tuple(Int()), Tuple(Int())),
		Union(Any(), Any()),
		Variable(math.MinInt), Variable(-1), Variable(0), Variable(2), Variable(10), Variable(math.MaxInt),
		Exists(Any(), Variable(0)), Exists(Any(), Variable(1)), Exists(Int(), Any()),
		Node(api.KindExists + 1), Node(math.MaxInt), {Kind: math.MaxInt, Name: "a"},
	}
	for i, a := range ascending {
		for j, b := range ascending {
			if got := typeterm.Compare(a, b); got != cmp.Compare(i, j) {
				t.Errorf("Compare(%v, %v) = %d", a, b, got)
			}
			if got := typeterm.Equal(a, b); got != (i == j) {
				t.Errorf("Equal(%v, %v) = %v", a, b, got)
			}
		}
	}
}

// P2.5: Compare is a total order, and 0 exactly for equal terms: sorting by it puts
// all pairs in order.
func TestCompareIsTotal(t *testing.T) {
	terms := oddTerms()
	slices.SortFunc(terms, typeterm.Compare)
	terms = slices.CompactFunc(terms, Same)
	for i, a := range terms {
		for j, b := range terms {
			if typeterm.Compare(a, b) != cmp.Compare(i, j) || typeterm.Equal(a, b) != Same(a, b) {
				t.Fatalf("Compare(%v, %v) = %d, Equal %v; sorted at %d and %d", a, b, typeterm.Compare(a, b), typeterm.Equal(a, b), i, j)
			}
		}
	}
}

// P2.4: Equal and Compare see a difference in each field at any depth.
func TestOneDifference(t *testing.T) {
	deep := func(inner api.Type) api.Type {
		return Tuple(Int(), Exists(Any(), Union(Named("Map", Variable(0), inner), Bool())))
	}
	plain := api.Type{Kind: 2, Name: "A", Index: 1, Args: []api.Type{Int()}}
	for _, other := range []api.Type{
		{Kind: 3, Name: "A", Index: 1, Args: []api.Type{Int()}},
		{Kind: 2, Name: "B", Index: 1, Args: []api.Type{Int()}},
		{Kind: 2, Name: "A", Index: 2, Args: []api.Type{Int()}},
		{Kind: 2, Name: "A", Index: 1, Args: []api.Type{Variable(0)}},
		{Kind: 2, Name: "A", Index: 1, Args: Repeat(2, Int())},
	} {
		a, b := deep(plain), deep(other)
		if typeterm.Equal(a, b) || typeterm.Equal(b, a) || typeterm.Compare(a, b) != -1 || typeterm.Compare(b, a) != 1 {
			t.Errorf("%v and %v: Equal %v, Compare %d", a, b, typeterm.Equal(a, b), typeterm.Compare(a, b))
		}
	}
	if a, b := deep(plain), deep(plain); !typeterm.Equal(a, b) || typeterm.Compare(a, b) != 0 {
		t.Error("equal terms in different memory differ")
	}
}
