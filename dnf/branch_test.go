package dnf_test

import (
	"slices"
	"testing"

	"telpher/api"
	"telpher/dnf"
	"telpher/typeterm"
	. "telpher/typetest"
)

// goodBranches returns valid branches, some of them at the limits.
func goodBranches() []api.Branch {
	six := Tuple()
	for i := range 6 {
		six.Args = append(six.Args, Box(Variable(i)))
	}
	return []api.Branch{
		Branch(Any()), Branch(Int()), Branch(Tuple()), Branch(NestTuples(11, Int())), Branch(Tuple(Any(), Tuple(Int(), Tuple()))),
		Branch(Named("Map", ab(), Exists(Any(), Tuple(Variable(0))))), Branch(Box(Tuple(ab(), Never()))),
		Branch(Box(Variable(0)), Any()), Branch(Box(Box(Variable(0))), Never()), Branch(Tuple(Variable(0), Box(Variable(0))), many(4)),
		Branch(Named("Map", Variable(0), Exists(Any(), Box(Variable(0)))), ab()), Branch(Named("Map", Variable(0), Box(Variable(0))), Box(many(33))),
		Branch(Tuple(Box(Variable(0)), Variable(1), Box(Variable(1))), Any(), Int()), Branch(Tuple(Variable(0), Variable(1), Named("Map", Variable(1), Variable(0))), ab(), Bool()),
		Branch(Tuple(Variable(0), Tuple(Variable(0), Tuple(Variable(1))), Box(Variable(0)), Box(Variable(1))), Int(), Tuple(many(2), many(2))),
		Branch(six, Any(), ab(), many(4), Never(), Exists(Int(), Box(Variable(0))), boxes(6, many(4))), Branch(Tuple(six, Variable(0), Variable(5), Variable(0)), Repeat(6, ab())...),
	}
}

// P4.3: ValidBranch holds for valid branches, up to the limits.
func TestValidBranch(t *testing.T) {
	for _, b := range goodBranches() {
		if !dnf.ValidBranch(b) {
			t.Errorf("ValidBranch(%v) is false", b)
		}
	}
}

func expectNotValid(t *testing.T, l ...api.Branch) {
	t.Helper()
	for _, b := range l {
		if dnf.ValidBranch(b) {
			t.Errorf("ValidBranch(%s) is true", brief(b))
		}
	}
}

// P4.1 and P4.3: bodies of other forms.
func TestBodyNotValid(t *testing.T) {
	for _, inner := range []api.Type{Never(), ab(), Exists(Any(), Box(Variable(0))), Exists(Any(), Any()), Union(Never(), Never())} {
		expectNotValid(t, Branch(inner), Branch(Tuple(inner)), Branch(Tuple(Int(), Tuple(inner, Int()))), Branch(Tuple(Box(Variable(0)), inner), Any()))
	}
	expectNotValid(t, Branch(Variable(0)), Branch(Variable(0), Any()), Branch(Box(Tuple(Variable(0))), Any()), Branch(Box(Union(Variable(0), Int())), Any()))
	expectNotValid(t, Branch(NestTuples(12, Int())), Branch(Tuple(many(199))), Branch(Tuple(Box(many(196)), Int(), Int())))
	if !dnf.ValidBranch(Branch(Tuple(Box(many(196)), Int()))) {
		t.Error("a body may have MaxNodes nodes")
	}
	for _, x := range malformed() {
		expectNotValid(t, Branch(x), Branch(Tuple(x)), Branch(Tuple(x, Box(Variable(0))), Any()))
	}
}

// P4.1 and P4.3: the numbers of variables, and variables without an invariant occurrence or a bound.
func TestVariablesNotValid(t *testing.T) {
	expectNotValid(t,
		Branch(Box(Variable(0))), Branch(Box(Variable(1)), Any()), Branch(Box(Variable(-1)), Any()), Branch(Int(), Any()), Branch(Box(Variable(0)), Any(), Any()),
		Branch(Tuple(Variable(0)), Any()), Branch(Tuple(Variable(0), Box(Variable(0)), Variable(1)), Any(), Any()), Branch(Tuple(Variable(0), Variable(1), Box(Variable(1))), Any(), Any()),
		Branch(Box(Variable(1)), Any(), Any()), Branch(Tuple(Box(Variable(1)), Box(Variable(0))), Any(), Any()), Branch(Tuple(Variable(1), Box(Variable(0)), Box(Variable(1))), Any(), Any()),
		Branch(Named("Map", Variable(1), Variable(0)), Any(), Any()), Branch(Tuple(Box(Variable(0)), Box(Variable(2)), Box(Variable(1))), Any(), Any(), Any()),
		Branch(Tuple(Variable(0), Box(Exists(Any(), Box(Variable(0))))), Any()),
	)
}

// P4.3: bounds that are not valid, not closed or beyond the limits.
func TestBoundsNotValid(t *testing.T) {
	for _, bound := range slices.Concat(malformed(), open(), []api.Type{
		many(5), many(33), Tuple(many(33), Never()), Exists(many(5), Box(Variable(0))), Tuple(boxes(6, Any()), boxes(1, Any())),
		Exists(Any(), Tuple(Box(Variable(0)), Variable(0), Variable(0), Tuple(Variable(0), Variable(0)))), Exists(Exists(many(5), Box(Variable(0))), Box(Variable(0))),
	}) {
		expectNotValid(t, Branch(Box(Variable(0)), bound), Branch(Tuple(Variable(0), Box(Variable(1)), Box(Variable(0))), Any(), bound))
	}
}

// P4.3: the limits on the number of variables and of covariant occurrences.
func TestCountsNotValid(t *testing.T) {
	seven := Tuple(Named("Map", Variable(0), Variable(1)))
	for i := 2; i < 7; i++ {
		seven.Args = append(seven.Args, Box(Variable(i)))
	}
	expectNotValid(t, Branch(seven, Repeat(7, Any())...), Branch(Int(), Repeat(100000, Any())...),
		Branch(Tuple(Box(Variable(0)), Variable(0), Variable(0), Tuple(Variable(0), Variable(0))), Any()),
		Branch(Tuple(Variable(0), Variable(1), Variable(1), Variable(0), Named("Map", Variable(0), Variable(1))), Any(), Any()))
}

// changes returns the terms that differ from t by another term in one place.
func changes(t api.Type) []api.Type {
	l := []api.Type{Any(), Never(), Int(), Box(Int()), ab(), Tuple(), Variable(0), Variable(1), Variable(2), Variable(-1), Box(Variable(0)), Box(Variable(1)), Exists(Any(), Box(Variable(0))), many(5), Node(7), Named("Never")}
	for i, arg := range t.Args {
		for _, change := range changes(arg) {
			changed := t
			changed.Args = slices.Clone(t.Args)
			changed.Args[i] = change
			l = append(l, changed)
		}
		changed := t
		changed.Args = slices.Delete(slices.Clone(t.Args), i, i+1)
		l = append(l, changed)
	}
	return l
}

// P4.3: a branch that is changed in one place is valid exactly if Expand returns it for its type.
func TestChangedBranches(t *testing.T) {
	valid, invalid := 0, 0
	expect := func(b api.Branch) {
		if typeterm.Size(b.Body) > 60 || typeterm.Depth(b.Body) > 8 {
			return // the type of a valid branch might not be valid
		}
		l, err := dnf.Expand(dnf.BranchType(b))
		want := err == api.OK && sameBranches(l, []api.Branch{b})
		if got := dnf.ValidBranch(b); got != want {
			t.Errorf("ValidBranch(%v) = %v", b, got)
		}
		if want {
			valid++
		} else {
			invalid++
		}
	}
	for _, b := range goodBranches() {
		for _, body := range changes(b.Body) {
			expect(Branch(body, b.Bounds...))
		}
		for i := range b.Bounds {
			for _, bound := range changes(b.Bounds[i]) {
				bounds := slices.Clone(b.Bounds)
				bounds[i] = bound
				expect(Branch(b.Body, bounds...))
			}
			expect(Branch(b.Body, slices.Delete(slices.Clone(b.Bounds), i, i+1)...))
			expect(Branch(b.Body, slices.Insert(slices.Clone(b.Bounds), i, Any())...))
		}
	}
	if min(valid, invalid) < 100 {
		t.Errorf("%d changed branches are valid and %d are not", valid, invalid)
	}
}

func expectType(t *testing.T, call string, got, want api.Type) {
	t.Helper()
	if !Same(got, want) {
		t.Errorf("%s = %v; want %v", call, got, want)
	}
}

// P4.3: BranchType has a KindExists node for each variable, with variable 0 outermost.
func TestBranchType(t *testing.T) {
	inner := Exists(ab(), Tuple(Variable(0), Exists(Any(), Named("Map", Variable(0), Variable(1)))))
	for _, c := range []struct {
		b    api.Branch
		want api.Type
	}{
		{Branch(Any()), Any()},
		{Branch(Box(inner)), Box(inner)},
		{Branch(Tuple(Int(), Tuple())), Tuple(Int(), Tuple())},
		{Branch(Box(Variable(0)), ab()), Exists(ab(), Box(Variable(0)))},
		{Branch(Tuple(Variable(0), Tuple(Variable(0)), Box(Variable(0))), Never()), Exists(Never(), Tuple(Variable(0), Tuple(Variable(0)), Box(Variable(0))))},
		{Branch(Tuple(Box(Variable(0)), Variable(1), Box(Variable(1))), Any(), Int()), Exists(Any(), Exists(Int(), Tuple(Box(Variable(1)), Variable(0), Box(Variable(0)))))},
		{Branch(Named("Map", Box(Variable(0)), Named("Map", Variable(1), Variable(2))), ab(), inner, Int()), Exists(ab(), Exists(inner, Exists(Int(), Named("Map", Box(Variable(2)), Named("Map", Variable(1), Variable(0))))))},
		{Branch(Named("Map", Variable(0), Named("Map", inner, Variable(1))), Any(), Int()), Exists(Any(), Exists(Int(), Named("Map", Variable(1), Named("Map", inner, Variable(0)))))},
	} {
		expectType(t, "BranchType", dnf.BranchType(c.b), c.want)
	}
}

// P4.3: UnionOf of no, one and several branches.
func TestUnionOf(t *testing.T) {
	b := Branch(Tuple(Box(Variable(0)), Box(Variable(1))), Any(), Int())
	expectType(t, "UnionOf(nil)", dnf.UnionOf(nil), Never())
	expectType(t, "UnionOf of no branches", dnf.UnionOf([]api.Branch{}), Never())
	expectType(t, "UnionOf of one branch", dnf.UnionOf([]api.Branch{b}), dnf.BranchType(b))
	expectType(t, "UnionOf of equal branches", dnf.UnionOf(plainBranches(Int(), Int())), Union(Int(), Int()))
	expectType(t, "UnionOf of several branches", dnf.UnionOf([]api.Branch{Branch(Int()), b, Branch(Any())}), Union(Int(), dnf.BranchType(b), Any()))
	long := slices.Repeat([]api.Branch{b}, 1000)
	if u := dnf.UnionOf(long); u.Kind != api.KindUnion || len(u.Args) != 1000 || !Same(u.Args[999], dnf.BranchType(b)) {
		t.Error("UnionOf of many branches")
	}
}
