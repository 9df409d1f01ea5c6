package dnf_test

import (
	"testing"

	"telpher/api"
)

// P4.2: Any, Never, nominal types and unions.
func TestExpandSimple(t *testing.T) {
	expectExpand(t, anyType(), branch(anyType()))
	expectExpand(t, never())
	expectExpand(t, intType(), branch(intType()))
	expectExpand(t, named("Map", ab(), anyType()), branch(named("Map", ab(), anyType())))
	expectExpand(t, box(never()), branch(box(never())))
	expectExpand(t, union(boolType(), intType()), plainBranches(boolType(), intType())...)
	expectExpand(t, union(never(), never()))
	expectExpand(t, union(tuple(never()), union(never(), tuple(intType(), never()))))
	expectExpand(t, union(intType(), union(ab(), never(), anyType()), intType(), named("B")), plainBranches(intType(), named("A"), named("B"), anyType(), intType(), named("B"))...)
}

// P4.2: the branches of a tuple are all combinations, the last element varying fastest.
func TestExpandTuples(t *testing.T) {
	expectExpand(t, tuple(), branch(tuple()))
	expectExpand(t, tuple(tuple(), tuple(tuple())), branch(tuple(tuple(), tuple(tuple()))))
	expectExpand(t, tuple(never()))
	expectExpand(t, tuple(ab(), tuple(ab(), never())))
	expectExpand(t, tuple(ab(), anyType(), union(intType(), boolType(), tuple())), plainBranches(
		tuple(named("A"), anyType(), intType()), tuple(named("A"), anyType(), boolType()), tuple(named("A"), anyType(), tuple()),
		tuple(named("B"), anyType(), intType()), tuple(named("B"), anyType(), boolType()), tuple(named("B"), anyType(), tuple()))...)
	expectExpand(t, tuple(tuple(ab(), ab()), union(intType(), boolType())), plainBranches(
		tuple(tuple(named("A"), named("A")), intType()), tuple(tuple(named("A"), named("A")), boolType()),
		tuple(tuple(named("A"), named("B")), intType()), tuple(tuple(named("A"), named("B")), boolType()),
		tuple(tuple(named("B"), named("A")), intType()), tuple(tuple(named("B"), named("A")), boolType()),
		tuple(tuple(named("B"), named("B")), intType()), tuple(tuple(named("B"), named("B")), boolType()))...)
}

// P4.2: a variable with an invariant occurrence is kept, with all its occurrences.
func TestExpandKeepsVariables(t *testing.T) {
	expectExpand(t, exists(ab(), box(variable(0))), branch(box(variable(0)), ab()))
	expectExpand(t, exists(ab(), tuple(variable(0), box(variable(0)), tuple(variable(0)))), branch(tuple(variable(0), box(variable(0)), tuple(variable(0))), ab()))
	expectExpand(t, exists(never(), tuple(variable(0), box(variable(0)))), branch(tuple(variable(0), box(variable(0))), never()))
	expectExpand(t, exists(intType(), named("Map", box(box(variable(0))), boolType())), branch(named("Map", box(box(variable(0))), boolType()), intType()))
	// An occurrence in a closed argument is not one of the variable.
	inner := exists(anyType(), tuple(variable(0), box(variable(0))))
	expectExpand(t, exists(intType(), tuple(variable(0), box(inner))), branch(tuple(intType(), box(inner))))
	expectExpand(t, exists(intType(), named("Map", variable(0), inner)), branch(named("Map", variable(0), inner), intType()))
}

// P4.2: a variable without an invariant occurrence is dropped; at its covariant occurrences stand
// the branches of its bound, the choice for the last occurrence varying fastest.
func TestExpandDropsVariables(t *testing.T) {
	expectExpand(t, exists(ab(), intType()), branch(intType()))
	expectExpand(t, exists(never(), tuple(intType(), anyType())), branch(tuple(intType(), anyType())))
	expectExpand(t, exists(never(), tuple(intType(), variable(0))))
	expectExpand(t, exists(tuple(intType(), never()), variable(0)))
	expectExpand(t, exists(anyType(), variable(0)), branch(anyType()))
	expectExpand(t, exists(ab(), variable(0)), plainBranches(named("A"), named("B"))...)
	expectExpand(t, exists(ab(), exists(union(intType(), boolType()), variable(1))), plainBranches(named("A"), named("B"))...)
	expectExpand(t, exists(intType(), tuple(variable(0), variable(0))), branch(tuple(intType(), intType())))
	expectExpand(t, exists(ab(), tuple(variable(0), tuple(variable(0)), variable(0))), plainBranches(
		tuple(named("A"), tuple(named("A")), named("A")), tuple(named("A"), tuple(named("A")), named("B")),
		tuple(named("A"), tuple(named("B")), named("A")), tuple(named("A"), tuple(named("B")), named("B")),
		tuple(named("B"), tuple(named("A")), named("A")), tuple(named("B"), tuple(named("A")), named("B")),
		tuple(named("B"), tuple(named("B")), named("A")), tuple(named("B"), tuple(named("B")), named("B")))...)
	// The inner variable is replaced first, so that the outer one varies fastest.
	expectExpand(t, exists(ab(), exists(union(intType(), boolType()), tuple(variable(0), variable(1)))), plainBranches(
		tuple(intType(), named("A")), tuple(intType(), named("B")), tuple(boolType(), named("A")), tuple(boolType(), named("B")))...)
	// A bound that is a tuple, a union or an existential type itself.
	expectExpand(t, exists(tuple(ab(), intType()), tuple(variable(0))), plainBranches(tuple(tuple(named("A"), intType())), tuple(tuple(named("B"), intType())))...)
	expectExpand(t, exists(exists(ab(), tuple(variable(0), intType())), tuple(variable(0))), plainBranches(tuple(tuple(named("A"), intType())), tuple(tuple(named("B"), intType())))...)
}

// P4.2: whether a variable is kept is decided for each branch of the body.
func TestExpandBranchByBranch(t *testing.T) {
	expectExpand(t, exists(ab(), union(tuple(variable(0)), box(variable(0)), intType(), variable(0))),
		branch(tuple(named("A"))), branch(tuple(named("B"))), branch(box(variable(0)), ab()), branch(intType()), branch(named("A")), branch(named("B")))
	expectExpand(t, exists(never(), union(variable(0), tuple(variable(0), box(variable(0))), tuple(variable(0)), intType())),
		branch(tuple(variable(0), box(variable(0))), never()), branch(intType()))
	expectExpand(t, exists(ab(), tuple(variable(0), union(intType(), box(variable(0))))),
		branch(tuple(named("A"), intType())), branch(tuple(named("B"), intType())), branch(tuple(variable(0), box(variable(0))), ab()))
	expectExpand(t, exists(never(), exists(union(intType(), never()), union(tuple(variable(0), variable(1)), variable(0)))), branch(intType()))
}

// P4.1 and P4.2: variables are numbered by their first occurrences of both kinds, from left to right.
func TestExpandNumbers(t *testing.T) {
	expectExpand(t, exists(intType(), exists(boolType(), tuple(box(variable(0)), box(variable(1))))), branch(tuple(box(variable(0)), box(variable(1))), boolType(), intType()))
	expectExpand(t, exists(intType(), exists(boolType(), tuple(box(variable(1)), box(variable(0))))), branch(tuple(box(variable(0)), box(variable(1))), intType(), boolType()))
	expectExpand(t, exists(intType(), exists(boolType(), tuple(variable(0), box(variable(1)), box(variable(0))))), branch(tuple(variable(0), box(variable(1)), box(variable(0))), boolType(), intType()))
	expectExpand(t, exists(intType(), exists(boolType(), tuple(named("Map", boolType(), box(variable(1))), variable(0), box(variable(0))))), branch(tuple(named("Map", boolType(), box(variable(0))), variable(1), box(variable(1))), intType(), boolType()))
	// The numbers are those in the branch, not those in the term.
	expectExpand(t, exists(intType(), exists(boolType(), union(box(variable(0)), box(variable(1)), named("Map", variable(1), variable(0))))),
		branch(box(variable(0)), boolType()), branch(box(variable(0)), intType()), branch(named("Map", variable(0), variable(1)), intType(), boolType()))
	// Equal bounds do not make variables equal.
	expectExpand(t, tuple(exists(intType(), box(variable(0))), exists(intType(), box(variable(0)))), branch(tuple(box(variable(0)), box(variable(1))), intType(), intType()))
}

// P4.2: the variables of different elements, and of branches that are put in, are kept distinct.
func TestExpandKeepsVariablesDistinct(t *testing.T) {
	boxed := exists(intType(), box(variable(0)))
	expectExpand(t, exists(boxed, tuple(variable(0), variable(0))), branch(tuple(box(variable(0)), box(variable(1))), intType(), intType()))
	expectExpand(t, exists(boxed, tuple(variable(0), box(variable(0)))), branch(tuple(variable(0), box(variable(0))), boxed))
	expectExpand(t, exists(ab(), tuple(exists(boxed, variable(0)), box(variable(0)), exists(boxed, variable(0)))),
		branch(tuple(box(variable(0)), box(variable(1)), box(variable(2))), intType(), ab(), intType()))
	pair := exists(boxed, tuple(variable(0), variable(0)))
	expectExpand(t, exists(pair, tuple(variable(0), intType(), variable(0))),
		branch(tuple(tuple(box(variable(0)), box(variable(1))), intType(), tuple(box(variable(2)), box(variable(3)))), intType(), intType(), intType(), intType()))
	either := exists(boolType(), union(tuple(variable(0), box(variable(0))), variable(0)))
	expectExpand(t, exists(either, tuple(variable(0), variable(0))),
		branch(tuple(tuple(variable(0), box(variable(0))), tuple(variable(1), box(variable(1)))), boolType(), boolType()),
		branch(tuple(tuple(variable(0), box(variable(0))), boolType()), boolType()),
		branch(tuple(boolType(), tuple(variable(0), box(variable(0)))), boolType()),
		branch(tuple(boolType(), boolType())))
}

// P4.2: ErrInvalid for terms that are malformed, too large or not closed, even beside a part without branches.
func TestExpandInvalid(t *testing.T) {
	for _, x := range malformed() {
		expectError(t, x, api.ErrInvalid)
	}
	for _, x := range open() {
		expectError(t, x, api.ErrInvalid)
	}
	expectError(t, tuple(many(33), variable(0)), api.ErrInvalid)
	expectError(t, many(200), api.ErrInvalid)
	expectError(t, many(199), api.ErrTooLong)
	expectError(t, nest(12, intType()), api.ErrInvalid)
	expectExpand(t, nest(11, intType()), branch(nest(11, intType())))
}
