package dnf_test

import (
	"slices"
	"testing"

	"telpher/api"
	"telpher/dnf"
	"telpher/typeterm"
)

// goodBranches returns valid branches, some of them at the limits.
func goodBranches() []api.Branch {
	six := tuple()
	for i := range 6 {
		six.Args = append(six.Args, box(variable(i)))
	}
	return []api.Branch{
		branch(anyType()), branch(intType()), branch(tuple()), branch(nest(11, intType())), branch(tuple(anyType(), tuple(intType(), tuple()))),
		branch(named("Map", ab(), exists(anyType(), tuple(variable(0))))), branch(box(tuple(ab(), never()))),
		branch(box(variable(0)), anyType()), branch(box(box(variable(0))), never()), branch(tuple(variable(0), box(variable(0))), many(4)),
		branch(named("Map", variable(0), exists(anyType(), box(variable(0)))), ab()), branch(named("Map", variable(0), box(variable(0))), box(many(33))),
		branch(tuple(box(variable(0)), variable(1), box(variable(1))), anyType(), intType()), branch(tuple(variable(0), variable(1), named("Map", variable(1), variable(0))), ab(), boolType()),
		branch(tuple(variable(0), tuple(variable(0), tuple(variable(1))), box(variable(0)), box(variable(1))), intType(), tuple(many(2), many(2))),
		branch(six, anyType(), ab(), many(4), never(), exists(intType(), box(variable(0))), boxes(6, many(4))), branch(tuple(six, variable(0), variable(5), variable(0)), repeat(6, ab())...),
	}
}

// P4.3: ValidBranch holds for valid branches, up to the limits.
func TestValidBranch(t *testing.T) {
	for _, b := range goodBranches() {
		if !dnf.ValidBranch(b) {
			t.Errorf("ValidBranch(%v) is false", b)
		}
	}
}

func expectNotValid(t *testing.T, l ...api.Branch) {
	t.Helper()
	for _, b := range l {
		if dnf.ValidBranch(b) {
			t.Errorf("ValidBranch(%s) is true", brief(b))
		}
	}
}

// P4.1 and P4.3: bodies of other forms.
func TestBodyNotValid(t *testing.T) {
	for _, inner := range []api.Type{never(), ab(), exists(anyType(), box(variable(0))), exists(anyType(), anyType()), union(never(), never())} {
		expectNotValid(t, branch(inner), branch(tuple(inner)), branch(tuple(intType(), tuple(inner, intType()))), branch(tuple(box(variable(0)), inner), anyType()))
	}
	expectNotValid(t, branch(variable(0)), branch(variable(0), anyType()), branch(box(tuple(variable(0))), anyType()), branch(box(union(variable(0), intType())), anyType()))
	expectNotValid(t, branch(nest(12, intType())), branch(tuple(many(199))), branch(tuple(box(many(196)), intType(), intType())))
	if !dnf.ValidBranch(branch(tuple(box(many(196)), intType()))) {
		t.Error("a body may have MaxNodes nodes")
	}
	for _, x := range malformed() {
		expectNotValid(t, branch(x), branch(tuple(x)), branch(tuple(x, box(variable(0))), anyType()))
	}
}

// P4.1 and P4.3: the numbers of variables, and variables without an invariant occurrence or a bound.
func TestVariablesNotValid(t *testing.T) {
	expectNotValid(t,
		branch(box(variable(0))), branch(box(variable(1)), anyType()), branch(box(variable(-1)), anyType()), branch(intType(), anyType()), branch(box(variable(0)), anyType(), anyType()),
		branch(tuple(variable(0)), anyType()), branch(tuple(variable(0), box(variable(0)), variable(1)), anyType(), anyType()), branch(tuple(variable(0), variable(1), box(variable(1))), anyType(), anyType()),
		branch(box(variable(1)), anyType(), anyType()), branch(tuple(box(variable(1)), box(variable(0))), anyType(), anyType()), branch(tuple(variable(1), box(variable(0)), box(variable(1))), anyType(), anyType()),
		branch(named("Map", variable(1), variable(0)), anyType(), anyType()), branch(tuple(box(variable(0)), box(variable(2)), box(variable(1))), anyType(), anyType(), anyType()),
		branch(tuple(variable(0), box(exists(anyType(), box(variable(0))))), anyType()),
	)
}

// P4.3: bounds that are not valid, not closed or beyond the limits.
func TestBoundsNotValid(t *testing.T) {
	for _, bound := range slices.Concat(malformed(), open(), []api.Type{
		many(5), many(33), tuple(many(33), never()), exists(many(5), box(variable(0))), tuple(boxes(6, anyType()), boxes(1, anyType())),
		exists(anyType(), tuple(box(variable(0)), variable(0), variable(0), tuple(variable(0), variable(0)))), exists(exists(many(5), box(variable(0))), box(variable(0))),
	}) {
		expectNotValid(t, branch(box(variable(0)), bound), branch(tuple(variable(0), box(variable(1)), box(variable(0))), anyType(), bound))
	}
}

// P4.3: the limits on the number of variables and of covariant occurrences.
func TestCountsNotValid(t *testing.T) {
	seven := tuple(named("Map", variable(0), variable(1)))
	for i := 2; i < 7; i++ {
		seven.Args = append(seven.Args, box(variable(i)))
	}
	expectNotValid(t, branch(seven, repeat(7, anyType())...), branch(intType(), repeat(100000, anyType())...),
		branch(tuple(box(variable(0)), variable(0), variable(0), tuple(variable(0), variable(0))), anyType()),
		branch(tuple(variable(0), variable(1), variable(1), variable(0), named("Map", variable(0), variable(1))), anyType(), anyType()))
}

// changes returns the terms that differ from t by another term in one place.
func changes(t api.Type) []api.Type {
	l := []api.Type{anyType(), never(), intType(), box(intType()), ab(), tuple(), variable(0), variable(1), variable(2), variable(-1), box(variable(0)), box(variable(1)), exists(anyType(), box(variable(0))), many(5), node(7), named("Never")}
	for i, arg := range t.Args {
		for _, change := range changes(arg) {
			changed := t
			changed.Args = slices.Clone(t.Args)
			changed.Args[i] = change
			l = append(l, changed)
		}
		changed := t
		changed.Args = slices.Delete(slices.Clone(t.Args), i, i+1)
		l = append(l, changed)
	}
	return l
}

// P4.3: a branch that is changed in one place is valid exactly if Expand returns it for its type.
func TestChangedBranches(t *testing.T) {
	valid, invalid := 0, 0
	expect := func(b api.Branch) {
		if typeterm.Size(b.Body) > 60 || typeterm.Depth(b.Body) > 8 {
			return // the type of a valid branch might not be valid
		}
		l, err := dnf.Expand(dnf.BranchType(b))
		want := err == api.OK && sameBranches(l, []api.Branch{b})
		if got := dnf.ValidBranch(b); got != want {
			t.Errorf("ValidBranch(%v) = %v", b, got)
		}
		if want {
			valid++
		} else {
			invalid++
		}
	}
	for _, b := range goodBranches() {
		for _, body := range changes(b.Body) {
			expect(branch(body, b.Bounds...))
		}
		for i := range b.Bounds {
			for _, bound := range changes(b.Bounds[i]) {
				bounds := slices.Clone(b.Bounds)
				bounds[i] = bound
				expect(branch(b.Body, bounds...))
			}
			expect(branch(b.Body, slices.Delete(slices.Clone(b.Bounds), i, i+1)...))
			expect(branch(b.Body, slices.Insert(slices.Clone(b.Bounds), i, anyType())...))
		}
	}
	if min(valid, invalid) < 100 {
		t.Errorf("%d changed branches are valid and %d are not", valid, invalid)
	}
}

func expectType(t *testing.T, call string, got, want api.Type) {
	t.Helper()
	if !same(got, want) {
		t.Errorf("%s = %v; want %v", call, got, want)
	}
}

// P4.3: BranchType has a KindExists node for each variable, with variable 0 outermost.
func TestBranchType(t *testing.T) {
	inner := exists(ab(), tuple(variable(0), exists(anyType(), named("Map", variable(0), variable(1)))))
	for _, c := range []struct {
		b    api.Branch
		want api.Type
	}{
		{branch(anyType()), anyType()},
		{branch(box(inner)), box(inner)},
		{branch(tuple(intType(), tuple())), tuple(intType(), tuple())},
		{branch(box(variable(0)), ab()), exists(ab(), box(variable(0)))},
		{branch(tuple(variable(0), tuple(variable(0)), box(variable(0))), never()), exists(never(), tuple(variable(0), tuple(variable(0)), box(variable(0))))},
		{branch(tuple(box(variable(0)), variable(1), box(variable(1))), anyType(), intType()), exists(anyType(), exists(intType(), tuple(box(variable(1)), variable(0), box(variable(0)))))},
		{branch(named("Map", box(variable(0)), named("Map", variable(1), variable(2))), ab(), inner, intType()), exists(ab(), exists(inner, exists(intType(), named("Map", box(variable(2)), named("Map", variable(1), variable(0))))))},
		{branch(named("Map", variable(0), named("Map", inner, variable(1))), anyType(), intType()), exists(anyType(), exists(intType(), named("Map", variable(1), named("Map", inner, variable(0)))))},
	} {
		expectType(t, "BranchType", dnf.BranchType(c.b), c.want)
	}
}

// P4.3: UnionOf of no, one and several branches.
func TestUnionOf(t *testing.T) {
	b := branch(tuple(box(variable(0)), box(variable(1))), anyType(), intType())
	expectType(t, "UnionOf(nil)", dnf.UnionOf(nil), never())
	expectType(t, "UnionOf of no branches", dnf.UnionOf([]api.Branch{}), never())
	expectType(t, "UnionOf of one branch", dnf.UnionOf([]api.Branch{b}), dnf.BranchType(b))
	expectType(t, "UnionOf of equal branches", dnf.UnionOf(plainBranches(intType(), intType())), union(intType(), intType()))
	expectType(t, "UnionOf of several branches", dnf.UnionOf([]api.Branch{branch(intType()), b, branch(anyType())}), union(intType(), dnf.BranchType(b), anyType()))
	long := slices.Repeat([]api.Branch{b}, 1000)
	if u := dnf.UnionOf(long); u.Kind != api.KindUnion || len(u.Args) != 1000 || !same(u.Args[999], dnf.BranchType(b)) {
		t.Error("UnionOf of many branches")
	}
}
