package typeterm_test

import (
	"math"
	"slices"
	"testing"

	"telpher/api"
	"telpher/typeterm"
	. "telpher/typetest"
)

// P2.2: Size and Depth.
func TestMeasures(t *testing.T) {
	for _, c := range []struct {
		t           api.Type
		size, depth int
	}{
		{Any(), 1, 1},
		{Never(), 1, 1},
		{Variable(3), 1, 1},
		{Tuple(), 1, 1},
		{Tuple(Int()), 2, 2},
		{Tuple(Int(), Int()), 3, 2},
		{Exists(Any(), Named("Box", Variable(0))), 4, 3},
		{Tuple(NestTuples(3, Int()), Int()), 6, 5},
		{Tuple(Int(), NestTuples(3, Int())), 6, 5},
		{Tuple(Int(), NestTuples(3, Int()), Tuple(Int())), 8, 5},
		{Exists(Union(Int(), Bool()), Variable(0)), 5, 3},
		{NestTuples(api.MaxTypeDepth+5, Int()), api.MaxTypeDepth + 6, api.MaxTypeDepth + 6},
		{Union(Repeat(1000, Int())...), 1001, 2},
		{Node(99, Node(-4, Any())), 3, 3},
		{Node(api.KindAny, Any()), 2, 2},
		{Node(api.KindVar, Variable(0)), 2, 2},
		{Node(api.KindExists, Any(), Any(), Tuple(Any())), 5, 3},
	} {
		if size, depth := typeterm.Size(c.t), typeterm.Depth(c.t); size != c.size || depth != c.depth {
			t.Errorf("Size and Depth of %v: %d, %d; want %d, %d", c.t, size, depth, c.size, c.depth)
		}
	}
}

// P2.1, P2.2: which variables are free.
func TestFreeVars(t *testing.T) {
	for _, c := range []struct {
		t    api.Type
		want []int
	}{
		{Any(), nil},
		{Variable(0), []int{0}},
		{Variable(math.MaxInt), []int{math.MaxInt}},
		{Tuple(Variable(5), Variable(2), Variable(5), Variable(10), Variable(2)), []int{2, 5, 10}},
		{Named("Map", Variable(1), Named("Box", Variable(0))), []int{0, 1}},
		{Exists(Any(), Named("Box", Variable(0))), nil},
		{Exists(Any(), Variable(1)), []int{0}},
		{Exists(Variable(0), Variable(0)), []int{0}},
		{Exists(Variable(1), Variable(1)), []int{0, 1}},
		{bind(2, Tuple(Variable(0), Variable(1))), nil},
		{bind(2, Tuple(Variable(1), Variable(2), Variable(4))), []int{0, 2}},
		{bind(1, Exists(Variable(0), Variable(1))), nil},
		{bind(1, Exists(Variable(1), Variable(1))), []int{0}},
		{bind(100, Tuple(Variable(99), Variable(100))), []int{0}},
		{Tuple(bind(3, Variable(3)), Variable(3)), []int{0, 3}},
		{Tuple(bind(3, Variable(2)), Variable(2)), []int{2}},
		// Malformed terms.
		{Variable(-1), nil},
		{Variable(math.MinInt), nil},
		{bind(2, Variable(-1)), nil},
		{api.Type{Kind: api.KindTuple, Index: 4}, nil},
		{api.Type{Kind: api.KindNamed, Index: 4, Name: "A"}, nil},
		{Node(api.KindExists), nil},
		{Node(api.KindExists, Variable(0)), []int{0}},
		{Node(api.KindExists, Variable(7), Variable(0), Variable(0)), []int{0, 7}},
		{Node(api.KindExists, Any(), Variable(1), Variable(1)), []int{0, 1}},
		{Node(api.KindExists, Any(), Variable(0), Any(), Variable(3)), []int{3}},
		{Node(12, Any(), Variable(0)), []int{0}},
		{Node(api.KindAny, Variable(6)), []int{6}},
		{api.Type{Kind: api.KindVar, Index: 2, Args: []api.Type{Any(), Variable(0)}}, []int{0, 2}},
	} {
		if got := typeterm.FreeVars(c.t); !slices.Equal(got, c.want) {
			t.Errorf("FreeVars(%v) = %v; want %v", c.t, got, c.want)
		}
	}
}

// P2.2: the names of all nominal types, also inside bounds and arguments.
func TestNames(t *testing.T) {
	for _, c := range []struct {
		t    api.Type
		want []string
	}{
		{Any(), nil},
		{Variable(0), nil},
		{Tuple(Never(), Union(Any(), Variable(2))), nil},
		{Int(), []string{"Int"}},
		{Named("Box", Named("Box", Int())), []string{"Box", "Int"}},
		{Exists(Union(Named("b"), Named("B")), Tuple(Named("a"), Named("A1"), Named("A"), Named("B"))), []string{"A", "A1", "B", "a", "b"}},
		{Tuple(Named("\xff"), Named("\u00e9"), Named("z"), Named("")), []string{"", "z", "\u00e9", "\xff"}},
		{api.Type{Kind: api.KindTuple, Name: "T", Args: []api.Type{{Kind: 77, Name: "U", Args: []api.Type{Named("V")}}}}, []string{"V"}},
		{Node(api.KindVar, Named("W")), []string{"W"}},
		{Node(api.KindExists, Any(), Any(), Named("X")), []string{"X"}},
	} {
		if got := typeterm.Names(c.t); !slices.Equal(got, c.want) {
			t.Errorf("Names(%v) = %q; want %q", c.t, got, c.want)
		}
	}
}

// P2.2: which terms may be arguments of nominal types.
func TestIsPlain(t *testing.T) {
	plain := []api.Type{
		Any(), Never(), Variable(0), Variable(1000), Tuple(), Int(),
		Tuple(Int(), Union(Bool(), Never())),
		Exists(Any(), Named("Box", Variable(0))),
		Exists(Any(), Union(Variable(0), Int())),
		Named("Box", Variable(0)),
		Named("Map", Variable(3), Named("Box", Named("Box", Variable(1))), Exists(Any(), Variable(0))),
		Named("Box", Tuple(Int(), Int())),
		// Malformed terms.
		Variable(-1), Named("", Repeat(20, Variable(0))...), api.Type{Kind: 50, Index: 3}, Tuple(Variable(-1)), Node(api.KindExists, Any()),
		Node(api.KindVar, Tuple(Variable(0))),
	}
	for _, x := range plain {
		if !typeterm.IsPlain(x) || !typeterm.IsPlain(Named("Box", Int(), x)) {
			t.Errorf("IsPlain(%v) = false", x)
		}
	}
	notPlain := []api.Type{
		Tuple(Variable(0)), Union(Int(), Variable(0)),
		Tuple(Named("Box", Variable(0))),
		Exists(Any(), Variable(1)),
		Exists(Variable(0), Any()),
		bind(3, Tuple(Variable(3))),
		Named("Map", Int(), Tuple(Variable(0))),
		Named("Box", Named("Box", Exists(Any(), Named("Box", Variable(1))))),
		// Malformed terms.
		Node(50, Variable(0)), Node(api.KindExists, Variable(0)), Node(api.KindExists, Any(), Any(), Variable(0)), Node(api.KindAny, Variable(0)),
	}
	for _, x := range notPlain {
		if typeterm.IsPlain(x) || typeterm.IsPlain(Named("Box", Int(), x)) || typeterm.IsPlain(Named("Box", x, Int())) {
			t.Errorf("IsPlain(%v) = true", x)
		}
	}
}

// P2.2: IsPlain follows its definition for malformed terms of every kind.
func TestIsPlainByDefinition(t *testing.T) {
	var isPlain func(x api.Type) bool
	isPlain = func(x api.Type) bool {
		closed := len(typeterm.FreeVars(x)) == 0
		notPlain := func(arg api.Type) bool { return !isPlain(arg) }
		return closed || x.Kind == api.KindVar || x.Kind == api.KindNamed && !slices.ContainsFunc(x.Args, notPlain)
	}
	for _, x := range oddTerms() {
		if got := typeterm.IsPlain(x); got != isPlain(x) {
			t.Errorf("IsPlain(%v) = %v", x, got)
		}
	}
}
