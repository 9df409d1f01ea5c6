package dnf_test

import (
	"testing"

	"telpher/api"
	"telpher/dnf"
	. "telpher/typetest"
)

// P4.2: at most MaxBranches branches of a term and of each part of it.
func TestMaxBranches(t *testing.T) {
	for _, x := range []api.Type{
		many(32), Union(many(16), many(16)), Tuple(many(8), many(4)), Tuple(many(2), many(2), many(2), many(2), many(2)), Tuple(many(32), Tuple(Tuple())),
		Exists(many(32), Variable(0)), Exists(many(2), Tuple(Variable(0), Variable(0), Variable(0), Variable(0), Variable(0))), Exists(many(16), Union(Tuple(Variable(0)), Variable(0))),
		Tuple(many(32), many(32), Never()), Tuple(Tuple(many(32), Never()), many(32)), Union(Tuple(many(32), many(32), Never()), many(32)),
		Exists(Never(), Tuple(many(32), Variable(0))), Exists(many(32), Exists(Never(), Tuple(Variable(0), Variable(0), Variable(1)))),
	} {
		expectError(t, x, api.OK)
	}
	for _, x := range []api.Type{
		many(33), Union(many(16), many(17)), Union(many(32), Union(Never(), Int())), Tuple(many(11), many(3)), Tuple(many(2), many(2), many(2), many(2), many(2), many(2)),
		Exists(many(33), Variable(0)), Exists(many(6), Tuple(Variable(0), Variable(0))), Exists(many(16), Union(Tuple(Variable(0)), Variable(0), Int())),
		Tuple(Never(), many(33)), Tuple(many(33), Never()), Tuple(Tuple(many(11), many(3)), Never()), Tuple(Never(), Exists(many(33), Variable(0))), Tuple(Union(Never(), many(33)), Never()),
		Exists(Never(), Tuple(Variable(0), many(33))), Exists(Never(), Tuple(many(11), many(3), Variable(0))), Exists(Never(), Exists(many(33), Tuple(Variable(0), Variable(1)))),
	} {
		expectError(t, x, api.ErrTooLong)
	}
}

// P4.2: arguments do not count, and a bound counts only if its branches are put in.
func TestMaxBranchesInside(t *testing.T) {
	for _, x := range []api.Type{
		Box(many(33)), Tuple(Box(Tuple(many(11), many(3)))), Box(Box(Exists(many(33), Variable(0)))),
		Exists(many(33), Int()), Exists(many(33), Never()), Exists(many(33), Tuple(Variable(0), Never())), Exists(Tuple(many(33), Never()), Int()),
		Exists(many(33), Exists(Never(), Tuple(Variable(0), Variable(1)))), Exists(Exists(many(33), Variable(0)), Int()), Exists(Exists(many(33), Int()), Variable(0)),
	} {
		expectError(t, x, api.OK)
	}
	for _, x := range []api.Type{
		Exists(Tuple(many(33), Never()), Variable(0)), Exists(Tuple(Never(), many(33)), Union(Int(), Variable(0))), Exists(Exists(many(33), Variable(0)), Variable(0)),
		Exists(Tuple(Tuple(many(11), many(3)), Never()), Tuple(Variable(0))), Exists(Exists(many(6), Tuple(Variable(0), Variable(0))), Variable(0)),
	} {
		expectError(t, x, api.ErrTooLong)
	}
}

// P4.2: at most MaxVars variables of a branch.
func TestMaxVars(t *testing.T) {
	for _, x := range []api.Type{
		boxes(6, Any()), Tuple(boxes(2, Any()), boxes(4, ab())), Tuple(boxes(6, Any()), Box(Int())), Union(boxes(6, Any()), boxes(6, Int())),
		Tuple(boxes(6, Any()), Exists(Int(), Variable(0))), Tuple(boxes(4, Any()), boxes(3, Any()), Never()), Box(Exists(boxes(6, Any()), Tuple(Variable(0), Variable(0)))),
		Exists(boxes(3, Any()), Tuple(Variable(0), Variable(0))), Exists(Exists(Int(), Box(Variable(0))), Tuple(Repeat(6, Variable(0))...)), Exists(Tuple(boxes(6, Any()), boxes(1, Any())), Int()),
	} {
		expectError(t, x, api.OK)
	}
	for _, x := range []api.Type{
		Tuple(boxes(6, Any()), boxes(1, Any())), Tuple(boxes(4, Any()), boxes(3, Any())), Union(Int(), Tuple(boxes(4, Any()), boxes(3, Any())), Bool()),
		Exists(boxes(4, Any()), Tuple(Variable(0), Variable(0))), Exists(Exists(Int(), Box(Variable(0))), Tuple(Variable(0), Tuple(Repeat(6, Variable(0))...))),
		Exists(Tuple(boxes(6, Any()), boxes(1, Any())), Variable(0)),
	} {
		expectError(t, x, api.ErrTooLong)
	}
}

// P4.2: at most MaxCovariant covariant occurrences of all variables of a branch together.
func TestMaxCovariant(t *testing.T) {
	twice := Exists(Int(), Tuple(Variable(0), Box(Variable(0)), Variable(0)))
	once := Exists(Int(), Tuple(Variable(0), Box(Variable(0))))
	for _, x := range []api.Type{
		Exists(Any(), Tuple(Box(Variable(0)), Variable(0), Tuple(Variable(0), Variable(0)))), Tuple(twice, once), Tuple(once, once, once), Exists(once, Tuple(Variable(0), Variable(0), Variable(0))),
		Exists(Any(), Tuple(Variable(0), Variable(0), Variable(0), Variable(0))), Tuple(twice, Exists(ab(), Tuple(Variable(0), Variable(0)))), Union(Tuple(twice, once), Tuple(once, twice)), Tuple(twice, twice, Never()),
		Exists(Int(), Tuple(Named("Map", Variable(0), Box(Variable(0))), Box(Variable(0)), Box(Variable(0)), Box(Variable(0)))),
	} {
		expectError(t, x, api.OK)
	}
	for _, x := range []api.Type{
		Exists(Any(), Tuple(Box(Variable(0)), Variable(0), Variable(0), Tuple(Variable(0), Variable(0)))), Tuple(twice, twice), Tuple(once, twice, once), Exists(once, Tuple(Variable(0), Variable(0), Variable(0), Variable(0))),
		Exists(twice, Tuple(Variable(0), Variable(0))), Union(Tuple(twice, once), Tuple(twice, once, once)),
	} {
		expectError(t, x, api.ErrTooLong)
	}
}

// P4.2: the bound of a variable that remains has at most MaxBound branches, and Expand does not fail for it.
func TestMaxBound(t *testing.T) {
	seven := Tuple(boxes(6, Any()), boxes(1, Any()))
	four := Exists(Any(), Tuple(Box(Variable(0)), Variable(0), Variable(0), Tuple(Variable(0), Variable(0))))
	for _, bound := range []api.Type{
		Never(), many(4), Tuple(many(2), many(2)), Tuple(many(32), many(32), Never()), Exists(many(2), Tuple(Variable(0), Variable(0))), Exists(many(4), Box(Variable(0))), boxes(6, many(4)), Exists(many(33), Int()), Box(many(33)), Box(seven),
		Exists(Exists(many(4), Box(Variable(0))), Box(Variable(0))),
	} {
		expectExpand(t, Exists(bound, Box(Variable(0))), Branch(Box(Variable(0)), bound))
		expectExpand(t, Exists(bound, Tuple(Variable(0), Box(Variable(0)))), Branch(Tuple(Variable(0), Box(Variable(0))), bound))
	}
	for _, bound := range []api.Type{
		many(5), many(33), Tuple(many(2), many(3)), Tuple(many(33), Never()), Exists(many(3), Tuple(Variable(0), Variable(0))), Exists(many(5), Variable(0)), Exists(many(5), Box(Variable(0))),
		seven, four, Tuple(Never(), Exists(many(33), Variable(0))), Exists(Exists(many(5), Box(Variable(0))), Box(Variable(0))), Exists(seven, Box(Variable(0))), Exists(four, Variable(0)), Union(Int(), seven),
		Exists(Exists(Exists(many(5), Box(Variable(0))), Box(Variable(0))), Box(Variable(0))),
	} {
		expectError(t, Exists(bound, Box(Variable(0))), api.ErrTooLong)
		expectError(t, Union(Int(), Exists(bound, Tuple(Variable(0), Box(Variable(0))))), api.ErrTooLong)
		expectError(t, Tuple(Exists(bound, Box(Variable(0))), Exists(bound, Int()), Never()), api.OK)
		expectError(t, Exists(Exists(bound, Box(Variable(0))), Int()), api.OK)
		expectError(t, Exists(Exists(bound, Box(Variable(0))), Variable(0)), api.ErrTooLong)
		expectError(t, Exists(bound, Int()), api.OK)
	}
	// A dropped variable may have more branches than MaxBound.
	expectExpand(t, Exists(many(5), Variable(0)), plainBranches(many(5).Args...)...)
}

// P4.2: a variable of a bound has a bound itself.
func TestBoundsInBounds(t *testing.T) {
	x := Any()
	for range 8 {
		bound := x
		x = Exists(bound, Union(Box(Variable(0)), Tuple(Variable(0), Box(Variable(0)))))
		expectExpand(t, x, Branch(Box(Variable(0)), bound), Branch(Tuple(Variable(0), Box(Variable(0))), bound))
	}
}

// P4.2 and rule 9: no memory is needed for branches that do not remain or are rejected, however large they are.
func TestHugeBranches(t *testing.T) {
	huge := sixfold(9, Exists(Int(), Variable(0)))
	expectExpand(t, Tuple(huge, Never()))
	expectExpand(t, Exists(huge, Tuple(Variable(0), Never())))
	expectExpand(t, Exists(Never(), Tuple(sixfold(8, Int()), Variable(0))))
	expectExpand(t, Exists(huge, Int()), Branch(Int()))
	expectExpand(t, Exists(huge, Box(Variable(0))), Branch(Box(Variable(0)), huge))
	expectError(t, Tuple(huge, many(33)), api.ErrTooLong)
	expectError(t, Tuple(huge, boxes(1, many(5))), api.ErrTooLong)
	expectError(t, sixfold(9, Exists(Int(), Box(Variable(0)))), api.ErrTooLong)
	expectError(t, Exists(sixfold(9, many(2)), Box(Variable(0))), api.ErrTooLong)
	if !dnf.ValidBranch(Branch(Box(Variable(0)), huge)) {
		t.Error("the branches of a bound are large, but few")
	}
}

// Rule 9 promises nothing for answers of more than 2^31 - 1 bytes, but Expand does not run out of memory either.
func TestEndlessBranches(t *testing.T) {
	expectError(t, sixfold(10, Int()), api.ErrTooLong)
	expectError(t, sixfold(10, Exists(Int(), Variable(0))), api.ErrTooLong)
}

// P4.2: the body of a branch may be larger than a term.
func TestLargeBranches(t *testing.T) {
	written := Int()
	for range 5 {
		written = Tuple(Repeat(6, written)...)
	}
	expectExpand(t, sixfold(5, Int()), Branch(written))
	expectExpand(t, Tuple(boxes(1, ab()), sixfold(5, Int())), Branch(Tuple(Tuple(Box(Variable(0))), written), ab()))
}
