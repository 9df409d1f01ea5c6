package dnf_test

import (
	"testing"

	"telpher/api"
	"telpher/dnf"
)

// P4.2: at most MaxBranches branches of a term and of each part of it.
func TestMaxBranches(t *testing.T) {
	for _, x := range []api.Type{
		many(32), union(many(16), many(16)), tuple(many(8), many(4)), tuple(many(2), many(2), many(2), many(2), many(2)), tuple(many(32), tuple(tuple())),
		exists(many(32), variable(0)), exists(many(2), tuple(variable(0), variable(0), variable(0), variable(0), variable(0))), exists(many(16), union(tuple(variable(0)), variable(0))),
		tuple(many(32), many(32), never()), tuple(tuple(many(32), never()), many(32)), union(tuple(many(32), many(32), never()), many(32)),
		exists(never(), tuple(many(32), variable(0))), exists(many(32), exists(never(), tuple(variable(0), variable(0), variable(1)))),
	} {
		expectError(t, x, api.OK)
	}
	for _, x := range []api.Type{
		many(33), union(many(16), many(17)), union(many(32), union(never(), intType())), tuple(many(11), many(3)), tuple(many(2), many(2), many(2), many(2), many(2), many(2)),
		exists(many(33), variable(0)), exists(many(6), tuple(variable(0), variable(0))), exists(many(16), union(tuple(variable(0)), variable(0), intType())),
		tuple(never(), many(33)), tuple(many(33), never()), tuple(tuple(many(11), many(3)), never()), tuple(never(), exists(many(33), variable(0))), tuple(union(never(), many(33)), never()),
		exists(never(), tuple(variable(0), many(33))), exists(never(), tuple(many(11), many(3), variable(0))), exists(never(), exists(many(33), tuple(variable(0), variable(1)))),
	} {
		expectError(t, x, api.ErrTooLong)
	}
}

// P4.2: arguments do not count, and a bound counts only if its branches are put in.
func TestMaxBranchesInside(t *testing.T) {
	for _, x := range []api.Type{
		box(many(33)), tuple(box(tuple(many(11), many(3)))), box(box(exists(many(33), variable(0)))),
		exists(many(33), intType()), exists(many(33), never()), exists(many(33), tuple(variable(0), never())), exists(tuple(many(33), never()), intType()),
		exists(many(33), exists(never(), tuple(variable(0), variable(1)))), exists(exists(many(33), variable(0)), intType()), exists(exists(many(33), intType()), variable(0)),
	} {
		expectError(t, x, api.OK)
	}
	for _, x := range []api.Type{
		exists(tuple(many(33), never()), variable(0)), exists(tuple(never(), many(33)), union(intType(), variable(0))), exists(exists(many(33), variable(0)), variable(0)),
		exists(tuple(tuple(many(11), many(3)), never()), tuple(variable(0))), exists(exists(many(6), tuple(variable(0), variable(0))), variable(0)),
	} {
		expectError(t, x, api.ErrTooLong)
	}
}

// P4.2: at most MaxVars variables of a branch.
func TestMaxVars(t *testing.T) {
	for _, x := range []api.Type{
		boxes(6, anyType()), tuple(boxes(2, anyType()), boxes(4, ab())), tuple(boxes(6, anyType()), box(intType())), union(boxes(6, anyType()), boxes(6, intType())),
		tuple(boxes(6, anyType()), exists(intType(), variable(0))), tuple(boxes(4, anyType()), boxes(3, anyType()), never()), box(exists(boxes(6, anyType()), tuple(variable(0), variable(0)))),
		exists(boxes(3, anyType()), tuple(variable(0), variable(0))), exists(exists(intType(), box(variable(0))), tuple(repeat(6, variable(0))...)), exists(tuple(boxes(6, anyType()), boxes(1, anyType())), intType()),
	} {
		expectError(t, x, api.OK)
	}
	for _, x := range []api.Type{
		tuple(boxes(6, anyType()), boxes(1, anyType())), tuple(boxes(4, anyType()), boxes(3, anyType())), union(intType(), tuple(boxes(4, anyType()), boxes(3, anyType())), boolType()),
		exists(boxes(4, anyType()), tuple(variable(0), variable(0))), exists(exists(intType(), box(variable(0))), tuple(variable(0), tuple(repeat(6, variable(0))...))),
		exists(tuple(boxes(6, anyType()), boxes(1, anyType())), variable(0)),
	} {
		expectError(t, x, api.ErrTooLong)
	}
}

// P4.2: at most MaxCovariant covariant occurrences of all variables of a branch together.
func TestMaxCovariant(t *testing.T) {
	twice := exists(intType(), tuple(variable(0), box(variable(0)), variable(0)))
	once := exists(intType(), tuple(variable(0), box(variable(0))))
	for _, x := range []api.Type{
		exists(anyType(), tuple(box(variable(0)), variable(0), tuple(variable(0), variable(0)))), tuple(twice, once), tuple(once, once, once), exists(once, tuple(variable(0), variable(0), variable(0))),
		exists(anyType(), tuple(variable(0), variable(0), variable(0), variable(0))), tuple(twice, exists(ab(), tuple(variable(0), variable(0)))), union(tuple(twice, once), tuple(once, twice)), tuple(twice, twice, never()),
		exists(intType(), tuple(named("Map", variable(0), box(variable(0))), box(variable(0)), box(variable(0)), box(variable(0)))),
	} {
		expectError(t, x, api.OK)
	}
	for _, x := range []api.Type{
		exists(anyType(), tuple(box(variable(0)), variable(0), variable(0), tuple(variable(0), variable(0)))), tuple(twice, twice), tuple(once, twice, once), exists(once, tuple(variable(0), variable(0), variable(0), variable(0))),
		exists(twice, tuple(variable(0), variable(0))), union(tuple(twice, once), tuple(twice, once, once)),
	} {
		expectError(t, x, api.ErrTooLong)
	}
}

// P4.2: the bound of a variable that remains has at most MaxBound branches, and Expand does not fail for it.
func TestMaxBound(t *testing.T) {
	seven := tuple(boxes(6, anyType()), boxes(1, anyType()))
	four := exists(anyType(), tuple(box(variable(0)), variable(0), variable(0), tuple(variable(0), variable(0))))
	for _, bound := range []api.Type{
		never(), many(4), tuple(many(2), many(2)), tuple(many(32), many(32), never()), exists(many(2), tuple(variable(0), variable(0))), exists(many(4), box(variable(0))), boxes(6, many(4)), exists(many(33), intType()), box(many(33)), box(seven),
		exists(exists(many(4), box(variable(0))), box(variable(0))),
	} {
		expectExpand(t, exists(bound, box(variable(0))), branch(box(variable(0)), bound))
		expectExpand(t, exists(bound, tuple(variable(0), box(variable(0)))), branch(tuple(variable(0), box(variable(0))), bound))
	}
	for _, bound := range []api.Type{
		many(5), many(33), tuple(many(2), many(3)), tuple(many(33), never()), exists(many(3), tuple(variable(0), variable(0))), exists(many(5), variable(0)), exists(many(5), box(variable(0))),
		seven, four, tuple(never(), exists(many(33), variable(0))), exists(exists(many(5), box(variable(0))), box(variable(0))), exists(seven, box(variable(0))), exists(four, variable(0)), union(intType(), seven),
		exists(exists(exists(many(5), box(variable(0))), box(variable(0))), box(variable(0))),
	} {
		expectError(t, exists(bound, box(variable(0))), api.ErrTooLong)
		expectError(t, union(intType(), exists(bound, tuple(variable(0), box(variable(0))))), api.ErrTooLong)
		expectError(t, tuple(exists(bound, box(variable(0))), exists(bound, intType()), never()), api.OK)
		expectError(t, exists(exists(bound, box(variable(0))), intType()), api.OK)
		expectError(t, exists(exists(bound, box(variable(0))), variable(0)), api.ErrTooLong)
		expectError(t, exists(bound, intType()), api.OK)
	}
	// A dropped variable may have more branches than MaxBound.
	expectExpand(t, exists(many(5), variable(0)), plainBranches(many(5).Args...)...)
}

// P4.2: a variable of a bound has a bound itself.
func TestBoundsInBounds(t *testing.T) {
	x := anyType()
	for range 8 {
		bound := x
		x = exists(bound, union(box(variable(0)), tuple(variable(0), box(variable(0)))))
		expectExpand(t, x, branch(box(variable(0)), bound), branch(tuple(variable(0), box(variable(0))), bound))
	}
}

// P4.2 and rule 9: no memory is needed for branches that do not remain or are rejected, however large they are.
func TestHugeBranches(t *testing.T) {
	huge := sixfold(9, exists(intType(), variable(0)))
	expectExpand(t, tuple(huge, never()))
	expectExpand(t, exists(huge, tuple(variable(0), never())))
	expectExpand(t, exists(never(), tuple(sixfold(8, intType()), variable(0))))
	expectExpand(t, exists(huge, intType()), branch(intType()))
	expectExpand(t, exists(huge, box(variable(0))), branch(box(variable(0)), huge))
	expectError(t, tuple(huge, many(33)), api.ErrTooLong)
	expectError(t, tuple(huge, boxes(1, many(5))), api.ErrTooLong)
	expectError(t, sixfold(9, exists(intType(), box(variable(0)))), api.ErrTooLong)
	expectError(t, exists(sixfold(9, many(2)), box(variable(0))), api.ErrTooLong)
	if !dnf.ValidBranch(branch(box(variable(0)), huge)) {
		t.Error("the branches of a bound are large, but few")
	}
}

// Rule 9 promises nothing for answers of more than 2^31 - 1 bytes, but Expand does not run out of memory either.
func TestEndlessBranches(t *testing.T) {
	expectError(t, sixfold(10, intType()), api.ErrTooLong)
	expectError(t, sixfold(10, exists(intType(), variable(0))), api.ErrTooLong)
}

// P4.2: the body of a branch may be larger than a term.
func TestLargeBranches(t *testing.T) {
	written := intType()
	for range 5 {
		written = tuple(repeat(6, written)...)
	}
	expectExpand(t, sixfold(5, intType()), branch(written))
	expectExpand(t, tuple(boxes(1, ab()), sixfold(5, intType())), branch(tuple(tuple(box(variable(0))), written), ab()))
}
