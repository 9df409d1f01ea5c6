package dnf_test

import (
	"fmt"
	"slices"
	"testing"

	"telpher/api"
	"telpher/dnf"
	. "telpher/typetest"
)

// ab returns a type with the two branches A and B.
func ab() api.Type { return Union(Named("A"), Named("B")) }

// many returns a union of so many nominal types N0, N1 and so on.
func many(count int) api.Type {
	u := Union()
	for i := range count {
		u.Args = append(u.Args, Named(fmt.Sprintf("N%d", i)))
	}
	return u
}

// boxes returns a tuple of so many boxes, each of a variable of its own with the bound.
func boxes(count int, bound api.Type) api.Type {
	t := Tuple()
	for range count {
		t.Args = append(t.Args, Exists(bound, Box(Variable(0))))
	}
	return t
}

// sixfold returns a term in which each of so many variables occurs six times, below the one
// before: its only branch has 6 to the power of levels copies of t.
func sixfold(levels int, t api.Type) api.Type {
	for range levels {
		t = Exists(t, Tuple(Repeat(6, Variable(0))...))
	}
	return t
}

// plainBranches returns a branch without variables for each body.
func plainBranches(bodies ...api.Type) []api.Branch {
	var l []api.Branch
	for _, body := range bodies {
		l = append(l, Branch(body))
	}
	return l
}

func sameBranch(a, b api.Branch) bool {
	return Same(a.Body, b.Body) && slices.EqualFunc(a.Bounds, b.Bounds, Same)
}

func sameBranches(a, b []api.Branch) bool { return slices.EqualFunc(a, b, sameBranch) }

// show writes a value with all its fields, nil and empty slices told apart.
func show(x any) string { return fmt.Sprintf("%#v", x) }

// brief writes a value, or the beginning of it.
func brief(x any) string {
	text := fmt.Sprint(x)
	return text[:min(len(text), 400)]
}

func expectBranches(t *testing.T, call string, got, want []api.Branch) {
	t.Helper()
	if !sameBranches(got, want) {
		t.Errorf("%s = %s; want %s", call, brief(got), brief(want))
	}
}

func expectExpand(t *testing.T, term api.Type, want ...api.Branch) {
	t.Helper()
	l, err := dnf.Expand(term)
	if err != api.OK {
		t.Errorf("Expand(%s): error %d", brief(term), err)
	}
	expectBranches(t, "Expand("+brief(term)+")", l, want)
}

func expectError(t *testing.T, term api.Type, want api.Errno) {
	t.Helper()
	l, err := dnf.Expand(term)
	if err != want || err != api.OK && l != nil {
		t.Errorf("Expand(%s) = %s, error %d; want %d", brief(term), brief(l), err, want)
	}
}

// malformed returns terms that are not valid.
func malformed() []api.Type {
	return []api.Type{
		Node(-1), Node(7), Node(9, Int()), {Name: "Int"}, {Index: 1}, Node(api.KindAny, Int()), Node(api.KindNever, Int()),
		{Kind: api.KindNamed}, {Kind: api.KindNamed, Name: "Int", Index: 1}, Named("1"), Named("Any"), Named("tuple", Int()),
		Box(Union(Variable(0), Int())), Box(Tuple(Variable(0))), Exists(Any(), Box(Tuple(Variable(0)))), Exists(Any(), Box(Exists(Any(), Variable(1)))),
		Named("Box", Repeat(7, Int())...), Tuple(Repeat(7, Int())...), {Kind: api.KindTuple, Name: "Int"},
		Node(api.KindUnion), Union(Int()), Union(Never()), Node(api.KindExists), Node(api.KindExists, Int()), Node(api.KindExists, Any(), Any(), Any()),
		Exists(Variable(0), Int()), Exists(Any(), Exists(Variable(0), Int())), Exists(Any(), Node(8)), Exists(Node(8), Any()),
		Variable(-1), Exists(Any(), Variable(-1)), Exists(Any(), Box(Variable(-1))), Variable(201), {Kind: api.KindVar, Name: "Int"}, Node(api.KindVar, Int()), Exists(Any(), Node(api.KindVar, Int())),
		NestTuples(12, Int()), Union(Repeat(200, Int())...), Tuple(Never(), Node(-5)), Union(Int(), Tuple(Named("Never"))),
	}
}

// open returns valid terms that are not closed.
func open() []api.Type {
	return []api.Type{
		Variable(0), Variable(3), Box(Variable(0)), Tuple(Int(), Variable(0)), Tuple(Never(), Variable(0)), Union(Int(), Variable(0)),
		Exists(Any(), Variable(1)), Exists(Any(), Tuple(Variable(0), Box(Variable(1)))), Exists(Never(), Tuple(Exists(Any(), Variable(2)))),
	}
}

// oddBranches returns branches that are not valid.
func oddBranches() []api.Branch {
	l := []api.Branch{
		Branch(Never()), Branch(ab()), Branch(Variable(0)), Branch(Variable(0), Any()), Branch(Tuple(Variable(0)), ab()), Branch(Tuple(Variable(-1), Variable(5)), Int()),
		Branch(Box(Variable(3)), Int(), Bool()), Branch(Int(), Repeat(9, Variable(0))...), Branch(Tuple(Variable(1), Variable(0)), Variable(0), Node(9)),
		Branch(Tuple(Variable(0), Variable(0)), Exists(Variable(7), Variable(0)), Node(api.KindExists)), Branch(Tuple(Variable(0)), Tuple(Repeat(40, ab())...)),
		Branch(Tuple(Repeat(60, Variable(0))...), ab()), Branch(Exists(Any(), Box(Variable(0))), Any()), Branch(Tuple(Box(Tuple(Variable(0))), Variable(0)), Union()),
	}
	for _, x := range slices.Concat(malformed(), open()) {
		l = append(l, Branch(x), Branch(Tuple(x, Variable(0), Box(Variable(0))), x), Branch(Box(x), x, x))
	}
	return l
}
