package dnf_test

import (
	"fmt"
	"slices"
	"testing"

	"telpher/api"
	"telpher/dnf"
)

func named(name string, args ...api.Type) api.Type {
	return api.Type{Kind: api.KindNamed, Name: name, Args: args}
}

func tuple(args ...api.Type) api.Type { return node(api.KindTuple, args...) }

func union(args ...api.Type) api.Type { return node(api.KindUnion, args...) }

func exists(bound, body api.Type) api.Type { return node(api.KindExists, bound, body) }

func variable(index int) api.Type { return api.Type{Kind: api.KindVar, Index: index} }

// node returns a node of any kind, which may be malformed.
func node(kind int, args ...api.Type) api.Type { return api.Type{Kind: kind, Args: args} }

func anyType() api.Type { return api.Type{} }

func never() api.Type { return node(api.KindNever) }

func intType() api.Type { return named("Int") }

func boolType() api.Type { return named("Bool") }

func box(t api.Type) api.Type { return named("Box", t) }

// ab returns a type with the two branches A and B.
func ab() api.Type { return union(named("A"), named("B")) }

// repeat returns so many copies of t.
func repeat(count int, t api.Type) []api.Type { return slices.Repeat([]api.Type{t}, count) }

// nest puts t into so many tuples, one in another.
func nest(levels int, t api.Type) api.Type {
	for range levels {
		t = tuple(t)
	}
	return t
}

// many returns a union of so many nominal types N0, N1 and so on.
func many(count int) api.Type {
	u := union()
	for i := range count {
		u.Args = append(u.Args, named(fmt.Sprintf("N%d", i)))
	}
	return u
}

// boxes returns a tuple of so many boxes, each of a variable of its own with the bound.
func boxes(count int, bound api.Type) api.Type {
	t := tuple()
	for range count {
		t.Args = append(t.Args, exists(bound, box(variable(0))))
	}
	return t
}

// sixfold returns a term in which each of so many variables occurs six times, below the one
// before: its only branch has 6 to the power of levels copies of t.
func sixfold(levels int, t api.Type) api.Type {
	for range levels {
		t = exists(t, tuple(repeat(6, variable(0))...))
	}
	return t
}

func branch(body api.Type, bounds ...api.Type) api.Branch {
	return api.Branch{Bounds: bounds, Body: body}
}

// plainBranches returns a branch without variables for each body.
func plainBranches(bodies ...api.Type) []api.Branch {
	var l []api.Branch
	for _, body := range bodies {
		l = append(l, branch(body))
	}
	return l
}

// same compares terms in all fields. It does not rely on typeterm.Equal.
func same(a, b api.Type) bool {
	return a.Kind == b.Kind && a.Name == b.Name && a.Index == b.Index && slices.EqualFunc(a.Args, b.Args, same)
}

func sameBranch(a, b api.Branch) bool {
	return same(a.Body, b.Body) && slices.EqualFunc(a.Bounds, b.Bounds, same)
}

func sameBranches(a, b []api.Branch) bool { return slices.EqualFunc(a, b, sameBranch) }

// show writes a value with all its fields, nil and empty slices told apart.
func show(x any) string { return fmt.Sprintf("%#v", x) }

// brief writes a value, or the beginning of it.
func brief(x any) string {
	text := fmt.Sprint(x)
	return text[:min(len(text), 400)]
}

func expectBranches(t *testing.T, call string, got, want []api.Branch) {
	t.Helper()
	if !sameBranches(got, want) {
		t.Errorf("%s = %s; want %s", call, brief(got), brief(want))
	}
}

func expectExpand(t *testing.T, term api.Type, want ...api.Branch) {
	t.Helper()
	l, err := dnf.Expand(term)
	if err != api.OK {
		t.Errorf("Expand(%s): error %d", brief(term), err)
	}
	expectBranches(t, "Expand("+brief(term)+")", l, want)
}

func expectError(t *testing.T, term api.Type, want api.Errno) {
	t.Helper()
	l, err := dnf.Expand(term)
	if err != want || err != api.OK && l != nil {
		t.Errorf("Expand(%s) = %s, error %d; want %d", brief(term), brief(l), err, want)
	}
}

// malformed returns terms that are not valid.
func malformed() []api.Type {
	return []api.Type{
		node(-1), node(7), node(9, intType()), {Name: "Int"}, {Index: 1}, node(api.KindAny, intType()), node(api.KindNever, intType()),
		{Kind: api.KindNamed}, {Kind: api.KindNamed, Name: "Int", Index: 1}, named("1"), named("Any"), named("tuple", intType()),
		box(union(variable(0), intType())), box(tuple(variable(0))), exists(anyType(), box(tuple(variable(0)))), exists(anyType(), box(exists(anyType(), variable(1)))),
		named("Box", repeat(7, intType())...), tuple(repeat(7, intType())...), {Kind: api.KindTuple, Name: "Int"},
		node(api.KindUnion), union(intType()), union(never()), node(api.KindExists), node(api.KindExists, intType()), node(api.KindExists, anyType(), anyType(), anyType()),
		exists(variable(0), intType()), exists(anyType(), exists(variable(0), intType())), exists(anyType(), node(8)), exists(node(8), anyType()),
		variable(-1), exists(anyType(), variable(-1)), exists(anyType(), box(variable(-1))), variable(201), {Kind: api.KindVar, Name: "Int"}, node(api.KindVar, intType()), exists(anyType(), node(api.KindVar, intType())),
		nest(12, intType()), union(repeat(200, intType())...), tuple(never(), node(-5)), union(intType(), tuple(named("Never"))),
	}
}

// open returns valid terms that are not closed.
func open() []api.Type {
	return []api.Type{
		variable(0), variable(3), box(variable(0)), tuple(intType(), variable(0)), tuple(never(), variable(0)), union(intType(), variable(0)),
		exists(anyType(), variable(1)), exists(anyType(), tuple(variable(0), box(variable(1)))), exists(never(), tuple(exists(anyType(), variable(2)))),
	}
}

// oddBranches returns branches that are not valid.
func oddBranches() []api.Branch {
	l := []api.Branch{
		branch(never()), branch(ab()), branch(variable(0)), branch(variable(0), anyType()), branch(tuple(variable(0)), ab()), branch(tuple(variable(-1), variable(5)), intType()),
		branch(box(variable(3)), intType(), boolType()), branch(intType(), repeat(9, variable(0))...), branch(tuple(variable(1), variable(0)), variable(0), node(9)),
		branch(tuple(variable(0), variable(0)), exists(variable(7), variable(0)), node(api.KindExists)), branch(tuple(variable(0)), tuple(repeat(40, ab())...)),
		branch(tuple(repeat(60, variable(0))...), ab()), branch(exists(anyType(), box(variable(0))), anyType()), branch(tuple(box(tuple(variable(0))), variable(0)), union()),
	}
	for _, x := range slices.Concat(malformed(), open()) {
		l = append(l, branch(x), branch(tuple(x, variable(0), box(variable(0))), x), branch(box(x), x, x))
	}
	return l
}
